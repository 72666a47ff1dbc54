package prove

import (
	"bytes"
	"slices"
	"testing"

	"sigil/api"
	"sigil/circuit"
	"sigil/curve"
	"sigil/params"
	"sigil/sample"
	"sigil/sheet"
	"sigil/tape"
)

// refused: Prove answers that error, and no proof.
func (o task) refused(t *testing.T, want api.Errno) {
	t.Helper()
	if proof, e := Prove(o.params, o.circuit, o.sheet, o.coins, o.src); len(proof) != 0 || e != want {
		t.Errorf("Prove on %d of the size %d of %v, %v with %d coins and a tape of %d: %d bytes, %d, not %d", o.params.Curve, o.params.K, o.circuit, o.sheet, len(o.coins), len(o.src.Tape), len(proof), e, want)
	}
}

// with: the task with that element in its tape.
func (o task) with(place int, v api.Elem) task {
	o.src.Tape = slices.Clone(o.src.Tape)
	o.src.Tape[place] = v
	return o
}

// The places of the challenges in a tape.
const (
	betaAt  = 1
	gammaAt = 2
	xAt     = 4
	eAt     = 7
)

// spent: how many coins are taken ahead of the opening.
func (o task) spent() int { return o.coinsFor() - (1 + 1<<o.params.K + 1 + 2*o.params.K) }

// some: tasks on little curves of all sizes, and on great ones of the least.
func (s *stream) some(look func(o task)) {
	for curve := range 4 {
		for k := 3; k <= 5; k++ {
			if curve > 1 && k > 3 {
				continue
			}
			c, filled := sample.Told(9)
			if k < 5 {
				c, filled = sample.Drawn(s.word(), curve, k)
			}
			look(s.taskOf(curve, k, c, filled))
		}
	}
}

// P19.2: the steps 1 and 2, in their order.

func TestProveRefusesWhatIsGiven(t *testing.T) {
	s := stream(10)
	c, filled := sample.Squares(2, 4, 3, 9)
	o := s.taskOf(0, 3, c, filled)
	broken, broke := sample.Squares(2, 4, 3, 8)
	worse := func(o task) []task {
		list := []task{o, o, o, o, o, o}
		list[1].circuit = api.Circuit{}
		list[2].sheet = api.Sheet{}
		list[3].src = api.Source{Mode: 2}
		list[4].circuit, list[4].sheet = broken, broke
		list[5].coins = nil
		return list
	}
	for _, curve := range wrongCurves {
		for _, other := range worse(o) {
			other.params.Curve, other.params.K = curve, 9
			other.refused(t, api.ErrCurve)
		}
	}
	for _, k := range []int{-1, 6, 7, 64, 1 << 32, 1<<32 + 3} {
		for _, other := range worse(o) {
			other.params.K = k
			other.refused(t, api.ErrSize)
		}
	}
	for _, spoil := range []func(p *api.Params){
		func(p *api.Params) { p.G = p.G[:7] },
		func(p *api.Params) { p.K = 4 },
		func(p *api.Params) { p.U = curve.Infinity() },
		func(p *api.Params) { p.W = api.Point{} },
		func(p *api.Params) { p.Curve = 1 },
		func(p *api.Params) { *p = api.Params{} },
	} {
		for _, other := range worse(o) {
			other.params = made(0, 3)
			spoil(&other.params)
			other.refused(t, api.ErrParams)
		}
	}
	for _, other := range worse(o)[3:] {
		other.circuit.Gates = []int{5}
		other.refused(t, api.ErrCircuit)
		other.circuit.Nodes = []api.Node{{}}
		other.refused(t, api.ErrNode)
		for k := range 3 {
			other.circuit, other.sheet, other.params = c, api.Sheet{}, made(0, k)
			other.refused(t, api.ErrSize)
			other.circuit = api.Circuit{}
			other.refused(t, api.ErrCircuit)
		}
	}
	for _, other := range worse(o)[3:] {
		other.sheet.Advice = other.sheet.Advice[1:]
		other.refused(t, api.ErrSheet)
		other.sheet.Advice = [][]api.Elem{make([]api.Elem, 5), nil}
		other.refused(t, api.ErrSheet)
	}
	for _, mode := range []int{-1, 2, 1 << 32, 1<<32 + 1} {
		for _, other := range worse(o)[4:] {
			other.src = api.Source{Mode: mode, Tape: make([]api.Elem, api.MaxTape+1)}
			other.refused(t, api.ErrMode)
		}
	}
	for mode := range 2 {
		for _, other := range worse(o)[4:] {
			other.src = api.Source{Mode: mode, Tape: make([]api.Elem, api.MaxTape+1)}
			other.refused(t, api.ErrTape)
		}
	}
	for _, other := range worse(o)[4:5] {
		for mode := range 2 {
			other.src.Mode = mode
			other.refused(t, api.ErrUnsatisfied)
			other.coins, other.src.Tape = nil, nil
			other.refused(t, api.ErrUnsatisfied)
		}
	}
}

// P4 of the whole, and the examples 2 and 3: what breaks a gate, a lookup or a copy is never proved.
func TestProveRefusesWhatIsBroken(t *testing.T) {
	s := stream(11)
	for curve := range 4 {
		for k := 3; k <= 5; k++ {
			for _, of := range []func() (api.Circuit, api.Sheet){
				func() (api.Circuit, api.Sheet) { return sample.Squares(2, 4, 3, 8) },
				func() (api.Circuit, api.Sheet) { return sample.Squares(1, 1, 1, 1, 1, 1, 0, 1) },
				func() (api.Circuit, api.Sheet) { return sample.Told(8) },
				func() (api.Circuit, api.Sheet) { return sample.Told(0) },
				func() (api.Circuit, api.Sheet) { return sample.Table(4, 5) },
				func() (api.Circuit, api.Sheet) { return sample.Table(0, 0, 0, 2) },
			} {
				c, filled := of()
				o := s.taskOf(curve, k, c, filled)
				o.refused(t, api.ErrUnsatisfied)
				o.src.Mode = api.FromHash
				o.refused(t, api.ErrUnsatisfied)
			}
		}
	}
}

// What isn't usable needn't hold: a gate that looks behind the usable rows is told of the rows ahead alone.
func TestProveOfGatesThatDontFit(t *testing.T) {
	s := stream(12)
	for curve := range 2 {
		for _, reach := range []int{1, 2, 3} {
			c := api.Circuit{Advice: 1, Nodes: []api.Node{{Op: api.OpAdvice, B: -reach}, {Op: api.OpAdvice, B: reach}, {Op: api.OpConst, V: api.Elem{1}}, {Op: api.OpAdd, A: 0, B: 1}, {Op: api.OpAdd, A: 2, B: 3}}, Gates: []int{4}}
			o := s.taskOf(curve, 3, c, api.Sheet{Advice: make([][]api.Elem, 1)})
			if reach == 1 {
				o.refused(t, api.ErrUnsatisfied)
				continue
			}
			// A node that is 1 everywhere, in no row at all.
			o.asSaid(t)
		}
	}
}

// P19.2: coins and challenges, just as many as are told.

func TestProveWithoutCoins(t *testing.T) {
	s := stream(13)
	s.some(func(o task) {
		want := o.proved(t)
		for count := range o.coinsFor() {
			if (o.params.Curve > 1 || o.params.K > 3) && s.below(6) > 0 && count < o.coinsFor()-2 {
				continue
			}
			short := o
			short.coins, short.src.Mode = o.coins[:count], count%2
			short.refused(t, api.ErrTape)
		}
		o.coins = append(slices.Clone(o.coins), s.elems(7)...)
		if !bytes.Equal(o.proved(t), want) {
			t.Error("more coins give another proof")
		}
	})
}

func TestProveWithoutChallenges(t *testing.T) {
	s := stream(14)
	s.some(func(o task) {
		want := o.proved(t)
		for count := range o.challengesFor() {
			short := o
			short.src.Tape = o.src.Tape[:count]
			short.refused(t, api.ErrTape)
		}
		o.src.Tape = append(slices.Clone(o.src.Tape), s.elems(7)...)
		if !bytes.Equal(o.proved(t), want) {
			t.Error("more challenges give another proof")
		}
		// A tape means nothing, where challenges are out of the hash.
		o.src.Mode = api.FromHash
		want = o.proved(t)
		o.src.Tape = nil
		if !bytes.Equal(o.proved(t), want) {
			t.Error("the tape gives another proof, with challenges out of the hash")
		}
		if other := (task{params: o.params, circuit: o.circuit, sheet: o.sheet, coins: append(s.elems(1), o.coins[1:]...)}); bytes.Equal(other.proved(t), want) {
			t.Error("another coin gives the same proof")
		}
	})
}

// P19.2, step 8: x is 0, or one of the points.
func TestProveAtAPoint(t *testing.T) {
	s := stream(15)
	s.some(func(o task) {
		f := o.by()
		list := []api.Elem{{}}
		for _, point := range f.points(o.params.K) {
			list = append(list, elemOf(point))
		}
		for i, v := range list {
			at := o.with(xAt, beside(o.params.Curve, v, int64(i%3)))
			at.refused(t, api.ErrDegenerate)
			if i%4 > 0 {
				continue
			}
			// The challenges and coins behind x aren't asked for any more.
			at.src.Tape, at.coins = at.src.Tape[:xAt+1], at.coins[:o.spent()]
			at.refused(t, api.ErrDegenerate)
			at.coins = at.coins[:o.spent()-1]
			at.refused(t, api.ErrTape)
		}
		// What is no point, though its power is one of two points.
		half := f.point(o.params.K+1, 1)
		o.with(xAt, elemOf(half)).asSaid(t)
		o.with(xAt, greatest).asSaid(t)
	})
}

// P19.2, step 9: its errors are multi.Open's.
func TestProveAtWhatIsAsked(t *testing.T) {
	s := stream(16)
	s.some(func(o task) {
		x := o.by().of(o.src.Tape[xAt])
		for _, a := range asksBy(o.circuit, o.params.K) {
			at := o.by().mul(x, line{o.by().point(o.params.K, a.Rot)})
			o.with(eAt, elemOf(at[0])).refused(t, api.ErrDegenerate)
		}
	})
}

// P19.2, step 6: a divisor of 0, in the one product and in the other.
func TestProveByNothing(t *testing.T) {
	s := stream(17)
	for curve := range 4 {
		// With a beta of 0 what is divided by is a value and gamma.
		c, filled := sample.Told(9)
		o := s.taskOf(curve, 3, c, filled)
		for _, v := range []int64{0, -4, -9} {
			gamma := elemOf(o.by().number(v)[0])
			o.with(betaAt, beside(curve, api.Elem{}, 1)).with(gammaAt, gamma).refused(t, api.ErrDegenerate)
		}
		o.with(betaAt, api.Elem{}).with(gammaAt, api.Elem{2}).asSaid(t)
		// Of what is sorted beta, of what is matched gamma.
		c, filled = sample.Table(4, 9)
		o = s.taskOf(curve, 3, c, filled)
		for _, place := range []int{betaAt, gammaAt} {
			for _, v := range []int64{0, -4, -9} {
				at := o.with(place, elemOf(o.by().number(v)[0]))
				at.refused(t, api.ErrDegenerate)
				// Two columns, each with five coins, and two of the lookup.
				at.coins = at.coins[:20]
				at.refused(t, api.ErrDegenerate)
				at.coins = at.coins[:19]
				at.refused(t, api.ErrTape)
			}
			o.with(place, elemOf(o.by().number(-2)[0])).asSaid(t)
		}
		// A 1 of the table is matched, though it isn't looked up.
		o.with(gammaAt, elemOf(o.by().number(-1)[0])).refused(t, api.ErrDegenerate)
		o.with(betaAt, elemOf(o.by().number(-1)[0])).asSaid(t)
	}
}

// The other challenges may be 0.
func TestProveByOtherNothing(t *testing.T) {
	s := stream(18)
	c, filled := sample.Full()
	for curve := range 2 {
		o := s.taskOf(curve, 3, c, filled)
		for _, place := range []int{0, 3, 5, 6, 8} {
			o.with(place, api.Elem{}).asSaid(t)
		}
	}
}

// errorBy: the error of the steps 1 and 2 by the document's words.
func (o task) errorBy() api.Errno {
	if e := params.Check(o.params); e != api.OK {
		return e
	}
	if e := sheet.Fit(o.circuit, o.params.K, o.sheet); e != api.OK {
		return e
	}
	if _, e := tape.Write(o.params.Curve, o.src); e != api.OK {
		return e
	}
	if faults, _ := sheet.Faults(o.sort(), o.circuit, o.params.K, o.sheet); len(faults) > 0 {
		return api.ErrUnsatisfied
	}
	return api.OK
}

// spoil: one thing of a task is another one; it may be right all the same.
func (s *stream) spoil(o *task) {
	n := []int{s.below(12) - 2, int(s.word()), s.below(70)}[s.below(3)]
	o.sheet = owned(o.sheet)
	o.circuit.Nodes, o.circuit.Equal = slices.Clone(o.circuit.Nodes), slices.Clone(o.circuit.Equal)
	columns := []*[][]api.Elem{&o.sheet.Fixed, &o.sheet.Advice, &o.sheet.Instance}[s.below(3)]
	switch s.below(9) {
	case 0:
		*[]*int{&o.circuit.Fixed, &o.circuit.Advice, &o.circuit.Instance}[s.below(3)] = n
	case 1:
		if len(o.circuit.Nodes) > 0 {
			one := &o.circuit.Nodes[s.below(len(o.circuit.Nodes))]
			*[]*int{&one.Op, &one.A, &one.B}[s.below(3)] = n
		}
	case 2:
		o.params = made(o.params.Curve, s.below(6))
	case 3:
		*[]*int{&o.params.K, &o.params.Curve, &o.src.Mode}[s.below(3)] = n
	case 4:
		o.sheet.Copies = append(o.sheet.Copies, api.Copy{A: api.Cell{Col: s.below(4) - 1, Row: s.below(20)}})
	case 5:
		o.circuit.Equal = append(o.circuit.Equal, api.Column{Kind: s.below(7), Col: s.below(4)})
	default:
		if len(*columns) > 0 {
			one := &(*columns)[s.below(len(*columns))]
			*one = append(slices.Clone(*one), s.elem())
			(*one)[s.below(len(*one))] = s.elem()
		}
	}
}

// owned: the same sheet in memory of its own.
func owned(s api.Sheet) api.Sheet {
	for _, columns := range []*[][]api.Elem{&s.Fixed, &s.Advice, &s.Instance} {
		*columns = slices.Clone(*columns)
		for i, values := range *columns {
			(*columns)[i] = slices.Clone(values)
		}
	}
	s.Copies = slices.Clone(s.Copies)
	return s
}

// Any tasks, right ones and wrong ones.
func TestProveOfWhatIsSpoilt(t *testing.T) {
	s := stream(19)
	met := map[api.Errno]int{}
	for i := range 400 {
		curve, k := i%2, 3+i%3
		c, filled := sample.Drawn(s.word(), curve, k)
		o := s.taskOf(curve, k, c, filled)
		o.coins, o.src.Tape = s.elems(400), s.elems(40)
		s.spoil(&o)
		want := o.errorBy()
		met[want]++
		if want != api.OK {
			o.refused(t, want)
		} else if !o.accepted(t, o.proved(t)) {
			t.Errorf("a proof of %v, %v isn't accepted", o.circuit, o.sheet)
		}
	}
	for e, least := range map[api.Errno]int{api.OK: 30, api.ErrUnsatisfied: 30, api.ErrNode: 3, api.ErrCircuit: 3, api.ErrSheet: 10, api.ErrSize: 10, api.ErrCurve: 3, api.ErrMode: 3} {
		if met[e] < least {
			t.Errorf("too few of a kind: %v", met)
		}
	}
}

// P19.1

func TestAsks(t *testing.T) {
	s := stream(20)
	for i := range 200 {
		k := 3 + i%3
		c, _ := sample.Drawn(s.word(), i%4, k)
		got, e := Asks(c, k)
		if want := asksBy(c, k); e != api.OK || !slices.Equal(got, want) {
			t.Errorf("Asks(%v, %d): %v, %d, not %v", c, k, got, e, want)
		}
	}
	// Queries that no gate uses are asked for too; those of instances aren't.
	c := api.Circuit{
		Fixed: 2, Advice: 3, Instance: 1,
		Nodes: []api.Node{{Op: api.OpFixed, A: 1, B: 2}, {Op: api.OpInstance, B: 1}, {Op: api.OpAdvice, A: 2, B: -3}, {Op: api.OpFixed, A: 1, B: 2}},
		Equal: []api.Column{{Kind: api.OpAdvice, Col: 2}, {Kind: api.OpInstance}, {Kind: api.OpFixed}},
	}
	want := []api.Ask{{Poly: 4, Rot: 2}, {Poly: 2, Rot: -3}, {Poly: 2}, {Poly: 3}, {Poly: 5}, {Poly: 6}, {Poly: 7}, {Poly: 8}, {Poly: 8, Rot: 1}, {Poly: 8, Rot: 12}, {Poly: 9}, {Poly: 9, Rot: 1}, {Poly: 10}, {Poly: 11}, {Poly: 12}}
	if got, e := Asks(c, 4); e != api.OK || !slices.Equal(got, want) {
		t.Errorf("%v, %d", got, e)
	}
	least, _ := sample.Least()
	for k := 3; k <= 5; k++ {
		if got, e := Asks(least, k); e != api.OK || !slices.Equal(got, []api.Ask{{Poly: 1}, {Poly: 2}}) {
			t.Errorf("%v, %d", got, e)
		}
	}
}

func TestAsksRefuses(t *testing.T) {
	c, _ := sample.Full()
	for _, k := range wrongSizes {
		for _, of := range []struct {
			c    api.Circuit
			want api.Errno
		}{{c, api.ErrSize}, {api.Circuit{}, api.ErrCircuit}, {api.Circuit{Advice: 1, Nodes: make([]api.Node, 1)}, api.ErrNode}, {api.Circuit{Advice: 9}, api.ErrCircuit}} {
			if got, e := Asks(of.c, k); len(got) != 0 || e != of.want {
				t.Errorf("Asks(%v, %d): %v, %d, not %d", of.c, k, got, e, of.want)
			}
		}
	}
	if got, e := Asks(api.Circuit{Advice: -1}, 3); len(got) != 0 || e != circuit.Check(api.Circuit{Advice: -1}) || e == api.OK {
		t.Errorf("%v, %d", got, e)
	}
}
