package accum

import (
	"math/big"
	"slices"
	"testing"

	"sigil/api"
	"sigil/sample"
)

// challenges: some by which claims are weighed.
func (s *stream) challenges(c int) []api.Elem {
	return []api.Elem{{}, {1}, {2}, less(c, 1), less(c, 0), elemOf(new(big.Int).Lsh(orderOf(c), 1)), greatest, s.elem(), s.elem()}
}

// P21.1 and P21.2

// Proofs that are accepted are so by every r.
func TestRightProofsHold(t *testing.T) {
	s := stream(1)
	for curve := range 4 {
		for k := 3; k <= 5; k++ {
			if curve > 1 && k > 3 {
				continue
			}
			o := batch{params: made(curve, k)}
			for range 5 {
				for _, r := range s.challenges(curve) {
					if curve > 1 && s.below(4) > 0 {
						continue
					}
					if !o.by(r).asTold(t) {
						t.Errorf("on %d of the size %d: %d proofs don't hold by %v", curve, k, len(o.claims), r)
					}
				}
				o.claims = append(o.claims, s.drawn(o.params))
			}
		}
	}
}

// No claims: no terms, and true.
func TestNoClaims(t *testing.T) {
	for curve := range 4 {
		for k := range 6 {
			o := batch{params: made(curve, k), r: api.Elem{3}}
			for _, o.claims = range [][]api.Claim{nil, {}} {
				if terms, place, e := Fold(o.params, o.claims, o.r); len(terms) != 0 || place != -1 || e != api.OK {
					t.Errorf("on %d: %v, %d, %d", curve, terms, place, e)
				}
				o.decided(t, true, -1, api.OK)
			}
		}
	}
}

// The terms of the first claim are its own by every r; all others' are there by 0 too.
func TestFoldByNothing(t *testing.T) {
	s := stream(2)
	for curve := range 4 {
		p := made(curve, 3)
		o := batch{params: p, claims: s.listed(p)[2:4]}
		for _, r := range []api.Elem{{}, elemOf(orderOf(curve))} {
			first, _, _ := Fold(p, o.claims[:1], api.Elem{7})
			terms, _, e := Fold(p, o.claims, r)
			if e != api.OK || len(terms) <= len(first) || !slices.Equal(terms[:len(first)], first) {
				t.Fatalf("on %d: %d terms, %d", curve, len(terms), e)
			}
			second, _, _ := Fold(p, o.claims[1:], r)
			for i, term := range terms[len(first):] {
				if term.K != (api.Elem{}) || term.P != second[i].P {
					t.Errorf("on %d: the term %d is %v", curve, i, term)
				}
			}
		}
	}
}

// An r counts as its remainder does.
func TestFoldByRemainders(t *testing.T) {
	s := stream(3)
	for curve := range 4 {
		p := made(curve, 3)
		o := batch{params: p, claims: s.listed(p)[1:4]}
		for range 4 {
			r := s.elem()
			rest := elemOf(new(big.Int).Mod(bigOf(r), orderOf(curve)))
			terms, _, _ := Fold(p, o.claims, r)
			again, _, e := Fold(p, o.claims, rest)
			if e != api.OK || !slices.Equal(terms, again) {
				t.Errorf("on %d: other terms by %v than by %v", curve, r, rest)
			}
		}
	}
}

// 64 claims are taken, however great; the last one counts too.
func TestMostClaims(t *testing.T) {
	s := stream(4)
	p := made(0, 3)
	listed := s.listed(p)
	o := batch{params: p, r: s.elem()}
	for i := range 64 {
		o.claims = append(o.claims, listed[i%len(listed)])
	}
	if !o.asTold(t) {
		t.Error("64 proofs don't hold")
	}
	if o.with(63, other(o.claims[63])).asTold(t) {
		t.Error("64 proofs hold, though the last one doesn't")
	}
	o.with(63, short(o.claims[63])).refused(t, 63, api.ErrShort)
	p = made(1, 5)
	c, filled := sample.Deep(s.word(), 1, 5)
	o = batch{params: p, claims: slices.Repeat([]api.Claim{s.claimed(p, api.FromHash, c, filled)}, 64), r: s.elem()}
	o.decided(t, true, -1, api.OK)
}

// The examples: one of two proofs has another last scalar.
func TestOneThatDoesNotHold(t *testing.T) {
	s := stream(5)
	for curve := range 4 {
		p := made(curve, 3)
		listed := s.listed(p)
		for place := range 3 {
			o := batch{params: p, claims: listed[1:4]}
			o = o.with(place, other(o.claims[place]))
			for _, r := range s.challenges(curve) {
				none := new(big.Int).Mod(bigOf(r), orderOf(curve)).Sign() == 0
				if holds := o.by(r).asTold(t); holds != (none && place > 0) {
					t.Errorf("on %d: %v by %v, where the proof %d doesn't hold", curve, holds, r, place)
				}
			}
		}
	}
}

// A proof that doesn't hold makes up for others just where the powers of r do.
func TestWhatMakesUp(t *testing.T) {
	s := stream(6)
	for curve := range 4 {
		p := made(curve, 3)
		right := s.listed(p)[1]
		wrong := other(right)
		minus, fourth, eighth := less(curve, 1), root(curve, 2), root(curve, 3)
		for _, each := range []struct {
			claims []api.Claim
			holds  []api.Elem
		}{
			{[]api.Claim{wrong}, nil},
			{[]api.Claim{wrong, wrong}, []api.Elem{minus}},
			{[]api.Claim{right, wrong, wrong}, []api.Elem{{}, minus}},
			{[]api.Claim{wrong, right, wrong}, []api.Elem{fourth}},
			{[]api.Claim{wrong, wrong, wrong, wrong}, []api.Elem{minus, fourth}},
			{[]api.Claim{wrong, right, right, right, wrong}, []api.Elem{eighth}},
		} {
			o := batch{params: p, claims: each.claims}
			for _, r := range []api.Elem{{}, {1}, {2}, minus, fourth, eighth, s.elem()} {
				if holds := o.by(r).asTold(t); holds != slices.Contains(each.holds, r) {
					t.Errorf("on %d: %d claims by %v: %v", curve, len(each.claims), r, holds)
				}
			}
		}
	}
}
