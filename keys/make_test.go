package keys

import (
	"slices"
	"testing"

	"sigil/api"
	"sigil/curve"
)

// made: Make answers what it does by the document's words.
func made(t *testing.T, p api.Params, c api.Circuit, s api.Sheet) api.Vkey {
	t.Helper()
	got, e := Make(p, c, s)
	want, wrong := makeBy(p, c, s)
	if e != wrong || !same(got, want) {
		t.Errorf("Make(%d, %d, .., %v, %v): %v, %d, not %v, %d", p.Curve, p.K, c, s, got, e, want, wrong)
	}
	return got
}

// P15.3

func TestMake(t *testing.T) {
	for curve := range 4 {
		for k := 3; k <= 5; k++ {
			for _, of := range []func() (api.Circuit, api.Sheet){least, full} {
				c, s := of()
				v := made(t, setup(curve, k), c, s)
				if v.Curve != curve || v.K != k || !sameCircuit(v.Circuit, c) || len(v.Fixed) != c.Fixed || len(v.Sigma) != len(c.Equal) || Check(v) != api.OK {
					t.Errorf("the key of %v: %s", c, show(v))
				}
			}
		}
		c, s := greatestOne()
		made(t, setup(curve, 5), c, s)
	}
}

// The circuit is as it stands: also what its Ops don't name, and a V that is no element.
func TestMakeKeepsTheCircuit(t *testing.T) {
	c, s := full()
	v, e := Make(setup(0, 3), c, s)
	if e != api.OK || v.Circuit.Nodes[3] != (api.Node{Op: api.OpConst, A: 300, B: -7, V: greatest}) || v.Circuit.Nodes[7].V != (api.Elem{16521222}) {
		t.Errorf("%v, %d", v.Circuit.Nodes, e)
	}
}

// A column of 0 is committed to by its blind alone; one of 1 in all rows by the first G too.
func TestMakeByHand(t *testing.T) {
	for c := range 4 {
		p := setup(c, 3)
		s := api.Sheet{Fixed: [][]api.Elem{nil, {{}, {}}, slices.Repeat([]api.Elem{{1}}, 4)}, Advice: make([][]api.Elem, 1)}
		v, e := Make(p, api.Circuit{Fixed: 3, Advice: 1}, s)
		if e != api.OK || len(v.Sigma) != 0 || v.Fixed[0] != p.W || v.Fixed[1] != p.W || v.Fixed[2] == p.W || v.Fixed[2] == curve.Add(c, p.G[0], p.W) {
			t.Errorf("%v, %d", v, e)
		}
	}
	// Where nothing is copied, the first place's labels are the points: X.
	for c := range 4 {
		p := setup(c, 4)
		v, e := Make(p, api.Circuit{Advice: 1, Equal: []api.Column{{Kind: api.OpAdvice}}}, api.Sheet{Advice: make([][]api.Elem, 1)})
		if e != api.OK || len(v.Sigma) != 1 || v.Sigma[0] != curve.Add(c, p.G[1], p.W) {
			t.Errorf("%v, %d", v, e)
		}
	}
}

// A commitment may be infinity; that is a point of the key as any other.
func TestMakeOfInfinity(t *testing.T) {
	for c := range 4 {
		p := setup(c, 3)
		p.W = curve.Neg(c, p.G[1])
		v, e := Make(p, api.Circuit{Advice: 1, Equal: []api.Column{{Kind: api.OpAdvice}}}, api.Sheet{Advice: make([][]api.Elem, 1)})
		if e != api.OK || v.Sigma[0] != curve.Infinity() || Check(v) != api.OK {
			t.Errorf("%v, %d", v, e)
		}
	}
}

// What is proved with the key hangs on what is fixed alone: other advice and instances give the same one.
func TestMakeOfWhatIsFixed(t *testing.T) {
	c, s := full()
	p := setup(0, 3)
	want, e := Make(p, c, s)
	s.Advice, s.Instance = make([][]api.Elem, 3), [][]api.Elem{nil, column(8)}
	if got, wrong := Make(p, c, s); e != api.OK || wrong != api.OK || !same(got, want) {
		t.Errorf("%v, %d, not %v, %d", got, wrong, want, e)
	}
	s.Fixed[0][0] = api.Elem{8}
	if got, wrong := Make(p, c, s); wrong != api.OK || got.Fixed[0] == want.Fixed[0] || got.Fixed[1] != want.Fixed[1] || !slices.Equal(got.Sigma, want.Sigma) {
		t.Errorf("%v, %d", got, wrong)
	}
}

// unmade: Make answers an error, and nothing else.
func unmade(t *testing.T, p api.Params, c api.Circuit, s api.Sheet, wrong api.Errno) {
	t.Helper()
	if v, e := Make(p, c, s); e != wrong || !isNothing(v) {
		t.Errorf("Make(%d, %d, .., %v, %v): %v, %d, not %d", p.Curve, p.K, c, s, v, e, wrong)
	}
}

// wrongParams: parameters that aren't right, by their errors.
func wrongParams() map[api.Errno][]api.Params {
	list := map[api.Errno][]api.Params{}
	for c := range 4 {
		for _, wrong := range wrongSorts {
			p := setup(c, 3)
			p.Curve = wrong
			list[api.ErrCurve] = append(list[api.ErrCurve], p)
			p.K = 9
			list[api.ErrCurve] = append(list[api.ErrCurve], p)
		}
		for _, wrong := range []int{-1, 6, 64, 1 << 32} {
			p := setup(c, 3)
			p.K = wrong
			list[api.ErrSize] = append(list[api.ErrSize], p)
		}
		short, long, infinite, off, other := setup(c, 3), setup(c, 3), setup(c, 3), setup(c, 3), setup(c, 3)
		short.G = short.G[:7]
		long.G = append(long.G, long.W)
		infinite.U = curve.Infinity()
		off.G[3].X[0] ^= 1
		other.Curve ^= 2
		list[api.ErrParams] = append(list[api.ErrParams], short, long, infinite, off, other)
	}
	return list
}

// The parameters are looked at ahead of the circuit, and that ahead of the size and the sheet.
func TestMakeRefuses(t *testing.T) {
	c, s := full()
	for wrong, list := range wrongParams() {
		for _, p := range list {
			unmade(t, p, c, s, wrong)
			unmade(t, p, c, api.Sheet{}, wrong)
			unmade(t, p, api.Circuit{}, api.Sheet{}, wrong)
		}
	}
	for curve := range 4 {
		for k := range 6 {
			p := setup(curve, k)
			unmade(t, p, api.Circuit{}, s, api.ErrCircuit)
			unmade(t, p, api.Circuit{Nodes: make([]api.Node, 1)}, s, api.ErrNode)
			wrong := api.ErrSheet
			if k < 3 {
				wrong = api.ErrSize
				unmade(t, p, c, s, wrong)
			}
			unmade(t, p, c, api.Sheet{}, wrong)
		}
	}
	unmade(t, api.Params{}, c, s, api.ErrParams)
}

// Any circuits and sheets, right ones and wrong ones, by the document's words.
func TestMakeOfAny(t *testing.T) {
	sheets(30, 60, func(sort int, c api.Circuit, k int, s api.Sheet) {
		if k >= 0 && k <= 5 {
			made(t, setup(sort, k), c, s)
		}
	})
}
