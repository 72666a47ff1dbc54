package msm

import (
	"math/big"
	"slices"
	"testing"

	"sigil/api"
	"sigil/curve"
)

func fresh(t *testing.T, c int, terms ...api.Term) *Lazy {
	t.Helper()
	l, e := New(c)
	if l == nil || e != api.OK {
		t.Fatalf("New(%d): %v %d", c, l, e)
	}
	for _, x := range terms {
		if e := l.Add(x.K, x.P); e != api.OK {
			t.Fatalf("Add(%v): %d", x, e)
		}
	}
	return l
}

// holds: has the sum those terms, with scalars below their modulus?
func holds(t *testing.T, l *Lazy, c int, want []api.Term) {
	t.Helper()
	want = slices.Clone(want)
	for i := range want {
		want[i].K = rest(c, want[i].K)
	}
	if got := l.Terms(); !slices.Equal(got, want) {
		t.Errorf("on %d: the terms %v, not %v", c, got, want)
	}
}

func valued(t *testing.T, l *Lazy, c int, want api.Point) {
	t.Helper()
	if got := l.Value(); got != want {
		t.Errorf("on %d: the value %v, not %v", c, got, want)
	}
	if got, e := Sum(c, l.Terms()); got != want || e != api.OK {
		t.Errorf("on %d: the terms' sum %v %d, not %v", c, got, e, want)
	}
}

// scaled: the terms so often, by math/big.
func scaled(c int, k api.Elem, terms []api.Term) []api.Term {
	out := slices.Clone(terms)
	for i, t := range terms {
		n := new(big.Int).Mul(bigOf(k), bigOf(t.K))
		out[i].K = elemOf(n.Mod(n, orderOf(c)))
	}
	return out
}

// full: a sum of so many terms, and these.
func full(t *testing.T, c, n int) (*Lazy, []api.Term) {
	t.Helper()
	s := stream(100 + c)
	p := s.point(c)
	terms := make([]api.Term, n)
	for i := range terms {
		terms[i] = api.Term{K: api.Elem{uint64(i)}, P: p}
	}
	return fresh(t, c, terms...), terms
}

// P5.2

func TestNew(t *testing.T) {
	for c := range 4 {
		l := fresh(t, c)
		if len(l.Terms()) != 0 {
			t.Errorf("New(%d) has terms: %v", c, l.Terms())
		}
		valued(t, l, c, infinity)
		l.Scale(greatest)
		valued(t, l, c, infinity)
	}
	for _, c := range wrongCurves {
		if l, e := New(c); l != nil || e != api.ErrCurve {
			t.Errorf("New(%d): %v %d", c, l, e)
		}
	}
}

func TestExample(t *testing.T) {
	for c := range 4 {
		s := stream(110 + c)
		p := s.point(c)
		l := fresh(t, c, api.Term{K: api.Elem{2}, P: p}, api.Term{K: api.Elem{3}, P: p})
		valued(t, l, c, curve.Mul(c, api.Elem{5}, p))
		l.Scale(api.Elem{2})
		valued(t, l, c, curve.Mul(c, api.Elem{10}, p))
		holds(t, l, c, []api.Term{{K: api.Elem{4}, P: p}, {K: api.Elem{6}, P: p}})
	}
}

func TestAdd(t *testing.T) {
	for c := range 4 {
		s := stream(120 + c)
		l := fresh(t, c)
		var terms []api.Term
		for i, k := range append(edges(c), s.elem(), s.elem()) {
			for _, p := range []api.Point{s.point(c), infinity} {
				terms = append(terms, api.Term{K: k, P: p})
				if e := l.Add(k, p); e != api.OK {
					t.Errorf("on %d: Add(%v, %v): %d", c, k, p, e)
				}
			}
			holds(t, l, c, terms)
			if i%5 == 0 {
				valued(t, l, c, oneByOne(c, terms))
			}
		}
	}
}

func TestAddOffTheCurve(t *testing.T) {
	for c := range 4 {
		s := stream(130 + c)
		terms := s.terms(c, 3)
		l := fresh(t, c, terms...)
		for _, p := range offCurve(c) {
			for _, k := range []api.Elem{{}, {1}, greatest} {
				if e := l.Add(k, p); e != api.ErrPoint {
					t.Errorf("on %d: Add(%v, %v): %d", c, k, p, e)
				}
			}
		}
		holds(t, l, c, terms)
		valued(t, l, c, oneByOne(c, terms))
	}
}

func TestAddToMany(t *testing.T) {
	for c := range 4 {
		l, terms := full(t, c, api.MaxTerms)
		p := terms[0].P
		for range 2 {
			if e := l.Add(api.Elem{1}, p); e != api.ErrLength {
				t.Errorf("on %d: Add to MaxTerms terms: %d", c, e)
			}
			// A point that isn't on the curve is told ahead of too many terms.
			if e := l.Add(api.Elem{1}, api.Point{}); e != api.ErrPoint {
				t.Errorf("on %d: Add of no point to MaxTerms terms: %d", c, e)
			}
		}
		if !slices.Equal(l.Terms(), scaled(c, api.Elem{1}, terms)) {
			t.Errorf("on %d: MaxTerms terms aren't there", c)
		}
		// 0 + 1 + .. + (MaxTerms - 1)
		valued(t, l, c, curve.Mul(c, api.Elem{api.MaxTerms * (api.MaxTerms - 1) / 2}, p))
	}
}

func TestScale(t *testing.T) {
	for c := range 4 {
		s := stream(140 + c)
		for _, k := range append(edges(c), s.elem(), s.elem()) {
			terms := append(s.terms(c, 5), api.Term{K: s.elem(), P: infinity})
			l := fresh(t, c, terms...)
			l.Scale(k)
			holds(t, l, c, scaled(c, k, terms))
			valued(t, l, c, curve.Mul(c, k, oneByOne(c, terms)))
			again := s.elem()
			l.Scale(again)
			holds(t, l, c, scaled(c, again, scaled(c, k, terms)))
		}
	}
}

// Behind a Scale by 0 the terms are still there, and later ones count as they are.
func TestScaleByNought(t *testing.T) {
	for c := range 4 {
		s := stream(150 + c)
		terms := s.terms(c, 4)
		for _, k := range []api.Elem{{}, elemOf(orderOf(c))} {
			l := fresh(t, c, terms...)
			l.Scale(k)
			valued(t, l, c, infinity)
			more := s.terms(c, 1)
			if e := l.Add(more[0].K, more[0].P); e != api.OK {
				t.Errorf("Add: %d", e)
			}
			holds(t, l, c, append(scaled(c, api.Elem{}, terms), more...))
			valued(t, l, c, oneByOne(c, more))
		}
	}
}

func TestJoin(t *testing.T) {
	for c := range 4 {
		s := stream(160 + c)
		for _, sizes := range [][2]int{{0, 0}, {0, 3}, {3, 0}, {1, 1}, {2, 5}, {8, 8}} {
			first, second := s.terms(c, sizes[0]), s.terms(c, sizes[1])
			l, o := fresh(t, c, first...), fresh(t, c, second...)
			if e := l.Join(o); e != api.OK {
				t.Errorf("on %d: Join: %d", c, e)
			}
			both := slices.Concat(first, second)
			holds(t, l, c, both)
			holds(t, o, c, second)
			valued(t, l, c, oneByOne(c, both))
			valued(t, o, c, oneByOne(c, second))
		}
	}
}

// Behind a Join, what is done to one of the sums isn't to be seen in the other.
func TestJoinSharesNothing(t *testing.T) {
	for c := range 4 {
		s := stream(170 + c)
		first, second, more, rest := s.terms(c, 3), s.terms(c, 5), s.terms(c, 4), s.terms(c, 4)
		for _, own := range [][]api.Term{nil, first} {
			l, o := fresh(t, c, own...), fresh(t, c, second...)
			if e := l.Join(o); e != api.OK {
				t.Errorf("on %d: Join: %d", c, e)
			}
			both := slices.Concat(own, second)
			k := s.elem()
			o.Scale(k)
			holds(t, l, c, both)
			for i := range more {
				l.Add(more[i].K, more[i].P)
				o.Add(rest[i].K, rest[i].P)
			}
			holds(t, l, c, append(both, more...))
			holds(t, o, c, append(scaled(c, k, second), rest...))
			l.Scale(api.Elem{})
			holds(t, o, c, append(scaled(c, k, second), rest...))
		}
	}
}

func TestJoinItself(t *testing.T) {
	for c := range 4 {
		s := stream(180 + c)
		terms := s.terms(c, 3)
		l := fresh(t, c, terms...)
		want := oneByOne(c, terms)
		for range 4 {
			if e := l.Join(l); e != api.OK {
				t.Errorf("on %d: Join: %d", c, e)
			}
			terms = append(terms, terms...)
			want = curve.Add(c, want, want)
			holds(t, l, c, terms)
			valued(t, l, c, want)
		}
		l.Scale(api.Elem{3})
		holds(t, l, c, scaled(c, api.Elem{3}, terms))
		none := fresh(t, c)
		if e := none.Join(none); e != api.OK || len(none.Terms()) != 0 {
			t.Errorf("on %d: none joined with itself: %d %v", c, e, none.Terms())
		}
	}
}

func TestJoinOtherCurves(t *testing.T) {
	many := make([]*Lazy, 4)
	for c := range 4 {
		many[c], _ = full(t, c, api.MaxTerms)
	}
	for c := range 4 {
		s := stream(190 + c)
		terms := s.terms(c, 3)
		l := fresh(t, c, terms...)
		for d := range 4 {
			if c == d {
				continue
			}
			others := s.terms(d, 2)
			o := fresh(t, d, others...)
			// Another curve is told ahead of too many terms, and where there are none.
			if l.Join(o) != api.ErrCurve || l.Join(fresh(t, d)) != api.ErrCurve || l.Join(many[d]) != api.ErrCurve || many[c].Join(many[d]) != api.ErrCurve {
				t.Errorf("a sum of %d joins one of %d", c, d)
			}
			holds(t, l, c, terms)
			holds(t, o, d, others)
		}
		if l.Join(nil) != api.ErrCurve {
			t.Errorf("a sum of %d joins none at all", c)
		}
		holds(t, l, c, terms)
	}
}

func TestJoinMany(t *testing.T) {
	const half = api.MaxTerms / 2
	for c := range 4 {
		l, terms := full(t, c, half)
		o, _ := full(t, c, half+1)
		if e := l.Join(o); e != api.ErrLength {
			t.Errorf("on %d: Join to one more than MaxTerms: %d", c, e)
		}
		if len(l.Terms()) != half || len(o.Terms()) != half+1 {
			t.Errorf("on %d: a Join that was refused has left %d and %d terms", c, len(l.Terms()), len(o.Terms()))
		}
		if e := o.Join(o); e != api.ErrLength || len(o.Terms()) != half+1 {
			t.Errorf("on %d: Join with itself to two more than MaxTerms: %d", c, e)
		}
		if e := l.Join(l); e != api.OK {
			t.Errorf("on %d: Join to MaxTerms: %d", c, e)
		}
		if !slices.Equal(l.Terms(), slices.Concat(scaled(c, api.Elem{1}, terms), scaled(c, api.Elem{1}, terms))) {
			t.Errorf("on %d: the terms of a sum that was joined with itself are others", c)
		}
		if e := l.Join(fresh(t, c)); e != api.OK || len(l.Terms()) != api.MaxTerms {
			t.Errorf("on %d: Join of none to MaxTerms: %d", c, e)
		}
		if e := fresh(t, c).Join(l); e != api.OK {
			t.Errorf("on %d: Join of MaxTerms to none: %d", c, e)
		}
		if e := l.Join(fresh(t, c, api.Term{P: infinity})); e != api.ErrLength {
			t.Errorf("on %d: Join of one to MaxTerms: %d", c, e)
		}
		if e := l.Join(l); e != api.ErrLength || len(l.Terms()) != api.MaxTerms {
			t.Errorf("on %d: Join of MaxTerms to MaxTerms: %d", c, e)
		}
	}
}

// P5.3

func TestTermsAreNewMemory(t *testing.T) {
	for c := range 4 {
		s := stream(200 + c)
		for n := range 10 {
			terms := s.terms(c, n)
			l := fresh(t, c, terms...)
			first, second := l.Terms(), l.Terms()
			first = first[:cap(first)]
			for i := range first {
				first[i] = api.Term{K: greatest}
			}
			if len(second) != n {
				t.Errorf("on %d: %d terms, not %d", c, len(second), n)
			}
			for i, x := range second {
				if x != (api.Term{K: rest(c, terms[i].K), P: terms[i].P}) {
					t.Errorf("on %d: two answers of Terms share memory", c)
				}
			}
			holds(t, l, c, terms)
			valued(t, l, c, oneByOne(c, terms))
			// Nor does a later term come into what was answered.
			kept := second[:cap(second)]
			before := slices.Clone(kept)
			l.Add(api.Elem{7}, infinity)
			l.Scale(api.Elem{9})
			l.Join(l)
			if !slices.Equal(kept, before) {
				t.Errorf("on %d: what was answered has changed", c)
			}
		}
	}
}

// Value and Terms tell, and change nothing.
func TestValueChangesNothing(t *testing.T) {
	for c := range 4 {
		s := stream(210 + c)
		terms := s.terms(c, 6)
		l, o := fresh(t, c, terms...), fresh(t, c, terms[:2]...)
		want := oneByOne(c, terms)
		for range 3 {
			valued(t, l, c, want)
			holds(t, l, c, terms)
		}
		valued(t, o, c, oneByOne(c, terms[:2]))
		holds(t, o, c, terms[:2])
	}
}
