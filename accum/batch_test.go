package accum

import (
	"bytes"
	"math/big"
	"slices"
	"testing"

	"sigil/api"
	"sigil/curve"
	"sigil/keys"
	"sigil/params"
	"sigil/prove"
	"sigil/sample"
	"sigil/verify"
)

// made: parameters that Setup doesn't refuse.
func made(c, k int) api.Params {
	p, e := params.Setup(c, k, []byte("seed"))
	if e != api.OK {
		panic(e)
	}
	return p
}

// claimed: a claim of a sheet that breaks nothing, with challenges of a mode.
func (s *stream) claimed(p api.Params, mode int, c api.Circuit, filled api.Sheet) api.Claim {
	key, e := keys.Make(p, c, filled)
	if e != api.OK {
		panic(e)
	}
	src := api.Source{Mode: mode, Tape: s.elems(20)}
	proof, e := prove.Prove(p, c, filled, s.elems(500), src)
	if e != api.OK {
		panic(e)
	}
	return api.Claim{Key: key, Instance: filled.Instance, Proof: proof, Src: src}
}

// drawn: a claim of any circuit that is right.
func (s *stream) drawn(p api.Params) api.Claim {
	c, filled := sample.Drawn(s.word(), p.Curve, p.K)
	return s.claimed(p, s.below(2), c, filled)
}

// listed: claims of the circuits that are written out, which hold at the size 3.
func (s *stream) listed(p api.Params) []api.Claim {
	var list []api.Claim
	for i, of := range []func() (api.Circuit, api.Sheet){
		sample.Least,
		func() (api.Circuit, api.Sheet) { return sample.Squares(2, 4, 3, 9) },
		func() (api.Circuit, api.Sheet) { return sample.Table(4, 9) },
		func() (api.Circuit, api.Sheet) { return sample.Told(9) },
		sample.Full,
	} {
		c, filled := of()
		list = append(list, s.claimed(p, i%2, c, filled))
	}
	return list
}

// other: the claim with another last scalar, whose opening doesn't hold.
func other(c api.Claim) api.Claim {
	c.Proof = bytes.Clone(c.Proof)
	c.Proof[len(c.Proof)-32] ^= 1
	return c
}

// short: the claim with a proof that lacks a byte.
func short(c api.Claim) api.Claim {
	c.Proof = c.Proof[:len(c.Proof)-1]
	return c
}

// batch is what Fold and Decide are given.
type batch struct {
	params api.Params
	claims []api.Claim
	r      api.Elem
}

// told: what Fold is to answer, by the document's words.
func (o batch) told() ([]api.Term, int, api.Errno) {
	if e := params.Check(o.params); e != api.OK {
		return nil, -1, e
	}
	if len(o.claims) > 64 {
		return nil, -1, api.ErrLength
	}
	var all []api.Term
	for i, c := range o.claims {
		terms, e := verify.Verify(o.params, c.Key, c.Instance, c.Proof, c.Src)
		if e != api.OK {
			return nil, i, e
		}
		order := orderOf(o.params.Curve)
		often := new(big.Int).Exp(bigOf(o.r), big.NewInt(int64(i)), order)
		for _, t := range terms {
			k := new(big.Int).Mul(bigOf(t.K), often)
			all = append(all, api.Term{K: elemOf(k.Mod(k, order)), P: t.P})
		}
	}
	return all, -1, api.OK
}

// summed: is the terms' sum infinity? By one multiple after another.
func summed(c int, terms []api.Term) bool {
	sum := api.Point{Inf: true}
	for _, t := range terms {
		sum = curve.Add(c, sum, curve.Mul(c, t.K, t.P))
	}
	return sum.Inf
}

// decided: does Decide answer that?
func (o batch) decided(t *testing.T, want bool, place int, wrong api.Errno) {
	t.Helper()
	if holds, i, e := Decide(o.params, o.claims, o.r); holds != want || i != place || e != wrong {
		t.Errorf("Decide on %d of %d claims by %v: %v, %d, %d; not %v, %d, %d", o.params.Curve, len(o.claims), o.r, holds, i, e, want, place, wrong)
	}
}

// asTold: does Fold answer what the document's words tell, and Decide what they make of it? What that is.
func (o batch) asTold(t *testing.T) bool {
	t.Helper()
	want, place, wrong := o.told()
	terms, i, e := Fold(o.params, o.claims, o.r)
	if !slices.Equal(terms, want) || i != place || e != wrong {
		t.Errorf("Fold on %d of %d claims by %v: %d terms, %d, %d; not %d terms, %d, %d", o.params.Curve, len(o.claims), o.r, len(terms), i, e, len(want), place, wrong)
	}
	holds := wrong == api.OK && summed(o.params.Curve, want)
	o.decided(t, holds, place, wrong)
	return holds
}

// refused: do Fold and Decide answer that, and nothing else?
func (o batch) refused(t *testing.T, place int, wrong api.Errno) {
	t.Helper()
	if terms, i, e := Fold(o.params, o.claims, o.r); len(terms) != 0 || i != place || e != wrong {
		t.Errorf("Fold on %d of %d claims by %v: %d terms, %d, %d; not %d, %d", o.params.Curve, len(o.claims), o.r, len(terms), i, e, place, wrong)
	}
	o.decided(t, false, place, wrong)
}

// by: the batch by another challenge.
func (o batch) by(r api.Elem) batch {
	o.r = r
	return o
}

// with: the batch with another claim of that place.
func (o batch) with(place int, c api.Claim) batch {
	o.claims = slices.Clone(o.claims)
	o.claims[place] = c
	return o
}
