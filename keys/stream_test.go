package keys

import (
	"slices"
	"testing"

	"sigil/api"
	"sigil/circuit"
	"sigil/curve"
	"sigil/sheet"
)

// stream gives the same numbers at every run.
type stream uint64

func (s *stream) word() uint64 {
	*s += 0x9e3779b97f4a7c15
	z := uint64(*s)
	z = (z ^ z>>30) * 0xbf58476d1ce4e5b9
	z = (z ^ z>>27) * 0x94d049bb133111eb
	return z ^ z>>31
}

func (s *stream) below(n int) int { return int(s.word() % uint64(n)) }

// any: a number of any size, often a small one.
func (s *stream) any() int {
	switch s.below(6) {
	case 0:
		return int(s.word())
	case 1:
		return far[s.below(len(far))]
	}
	return s.below(40) - 4
}

// elem: an element of a field, in one of several numbers that stand for it.
func (s *stream) elem(sort int) api.Elem {
	switch s.below(6) {
	case 0:
		return beside(sort, s.below(3), 1+s.below(3))
	case 1:
		return api.Elem{s.word(), s.word(), s.word(), s.word()}
	case 2:
		return greatest
	case 3:
		return api.Elem{}
	}
	return api.Elem{uint64(s.below(300))}
}

// node: a node that may stand at that place, of one of 2 columns; half of the queries are of their own row.
func (s *stream) node(sort, place int) api.Node {
	n := api.Node{Op: 1 + s.below(8), A: s.any(), B: s.any(), V: s.elem(sort)}
	if place == 0 || s.below(3) == 0 {
		n.Op = 1 + s.below(4)
	}
	switch {
	case n.Op >= 2 && n.Op <= 4:
		n.A, n.B = s.below(2), 0
		if s.below(2) == 0 {
			n.B = s.below(7) - 3
		}
	case n.Op == 6 || n.Op == 7:
		n.A, n.B = s.below(place), s.below(place)
	case n.Op >= 5:
		n.A = s.below(place)
	}
	return n
}

// places: so many numbers, each below a bound that is above 0.
func (s *stream) places(count, below int) []int {
	list := make([]int, count)
	for i := range list {
		list[i] = s.below(below)
	}
	return list
}

// circuit: a right one, of 2 to 4 columns of a kind.
func (s *stream) circuit(sort int) api.Circuit {
	for {
		c := api.Circuit{Fixed: 2 + s.below(3), Advice: 2 + s.below(3), Instance: 2 + s.below(3)}
		nodes := 1 + s.below(12)
		for i := range nodes {
			c.Nodes = append(c.Nodes, s.node(sort, i))
		}
		c.Gates = s.places(s.below(5), nodes)
		for range s.below(4) {
			width := 1 + s.below(4)
			c.Lookups = append(c.Lookups, api.Lookup{Inputs: s.places(width, nodes), Tables: s.places(width, nodes)})
		}
		for range s.below(7) {
			c.Equal = append(c.Equal, api.Column{Kind: 2 + s.below(3), Col: s.below(3)})
		}
		if circuit.Check(c) == api.OK {
			return c
		}
	}
}

// copies: so many copies of few cells or of many, so that classes of all sizes are met.
func (s *stream) copies(places, usable int) []api.Copy {
	var list []api.Copy
	rows := 1 + s.below(usable)
	cell := func() api.Cell { return at(s.below(places), usable-1-s.below(rows)) }
	for range s.below(3 * rows) {
		list = append(list, api.Copy{A: cell(), B: cell()})
	}
	return list
}

// sheet: one that fits a right circuit at a size.
func (s *stream) sheet(sort int, c api.Circuit, k int) api.Sheet {
	usable := 1<<k - 4
	var out api.Sheet
	for i, columns := range []*[][]api.Elem{&out.Fixed, &out.Advice, &out.Instance} {
		for range []int{c.Fixed, c.Advice, c.Instance}[i] {
			values := make([]api.Elem, s.below(usable+1))
			for row := range values {
				values[row] = s.elem(sort)
			}
			*columns = append(*columns, values)
		}
	}
	if len(c.Equal) > 0 {
		out.Copies = s.copies(len(c.Equal), usable)
	}
	return out
}

// spoilCircuit: one number of a circuit is another one; it may be right all the same.
func (s *stream) spoilCircuit(c *api.Circuit) {
	n := s.any()
	switch s.below(6) {
	case 0:
		*[]*int{&c.Fixed, &c.Advice, &c.Instance}[s.below(3)] = n
	case 1:
		c.Gates = append(c.Gates, n)
	case 2:
		c.Equal = append(c.Equal, api.Column{Kind: s.below(6), Col: n})
	case 3:
		if len(c.Lookups) > 0 {
			one := &c.Lookups[s.below(len(c.Lookups))]
			*[]*[]int{&one.Inputs, &one.Tables}[s.below(2)] = s.places(s.below(6), len(c.Nodes))
		}
	default:
		one := &c.Nodes[s.below(len(c.Nodes))]
		*[]*int{&one.Op, &one.A, &one.B}[s.below(3)] = n
	}
}

// spoil: one thing of a circuit, a size or a sheet is another one; it may be right all the same.
func (s *stream) spoil(c *api.Circuit, k *int, sheet *api.Sheet) {
	n := s.any()
	columns := []*[][]api.Elem{&sheet.Fixed, &sheet.Advice, &sheet.Instance}[s.below(3)]
	switch s.below(9) {
	case 0, 1:
		s.spoilCircuit(c)
	case 2:
		*k = n
	case 3:
		*columns = (*columns)[1:]
	case 4:
		*columns = append(*columns, nil)
	case 5:
		(*columns)[s.below(len(*columns))] = make([]api.Elem, s.below(40))
	case 6:
		sheet.Copies = make([]api.Copy, s.below(300))
	default:
		if len(sheet.Copies) > 0 {
			one := &sheet.Copies[s.below(len(sheet.Copies))]
			*[]*int{&one.A.Col, &one.A.Row, &one.B.Col, &one.B.Row}[s.below(4)] = n
		}
	}
}

// sheets: right ones and spoilt ones, each with its circuit, a sort and a size.
func sheets(seed stream, count int, look func(sort int, c api.Circuit, k int, s api.Sheet)) {
	s := seed
	for i := range count {
		sort, k := i%4, 3+i%3
		c := s.circuit(sort)
		one := s.sheet(sort, c, k)
		look(sort, c, k, one)
		spoilt, other := clonedCircuit(c), clonedSheet(one)
		s.spoil(&spoilt, &k, &other)
		look(sort, spoilt, k, other)
	}
}

// key: a right one.
func (s *stream) key(curve int) api.Vkey {
	v := keyOf(curve, 3+s.below(3), s.circuit(curve^1))
	for _, list := range [][]api.Point{v.Fixed, v.Sigma} {
		for i := range list {
			list[i] = s.point(curve)
		}
	}
	return v
}

// point: one of few on a curve, with either Y, or infinity.
func (s *stream) point(c int) api.Point {
	p := setup(c, 5).G[s.below(32)]
	switch s.below(5) {
	case 0:
		return curve.Infinity()
	case 1, 2:
		return curve.Neg(c, p)
	}
	return p
}

// offCurve: points that aren't on the curve, each of them wrong in another way.
func offCurve(c int) []api.Point {
	p, twin, far := setup(c, 3).G[0], setup(c^1, 3).G[0], setup(c^2, 3).G[0]
	return []api.Point{
		{},
		{X: p.X},
		{Y: p.Y},
		{X: p.Y, Y: p.X},
		{X: p.X, Y: greatest},
		{X: greatest, Y: p.Y},
		{X: elemOf(bigOf(p.X).Add(bigOf(p.X), modulusOf(c))), Y: p.Y},
		{X: p.X, Y: elemOf(bigOf(p.Y).Add(bigOf(p.Y), modulusOf(c)))},
		{X: p.X, Y: p.Y, Inf: true},
		{Inf: true, X: api.Elem{1}},
		{Inf: true, Y: api.Elem{1}},
		twin,
		far,
	}
}

// spoilKey: one thing of a key is another one; it may be right all the same.
func (s *stream) spoilKey(v *api.Vkey) {
	points := []*[]api.Point{&v.Fixed, &v.Sigma}[s.below(2)]
	switch s.below(7) {
	case 0:
		v.Curve = s.any()
	case 1:
		v.K = s.any()
	case 2, 3:
		s.spoilCircuit(&v.Circuit)
	case 4:
		*points = append(*points, s.point(v.Curve))
	case 5:
		if len(*points) > 0 {
			*points = (*points)[1:]
		}
	default:
		wrong := offCurve(v.Curve)
		if len(*points) > 0 {
			(*points)[s.below(len(*points))] = wrong[s.below(len(wrong))]
		}
	}
}

// keys: right ones and spoilt ones.
func keys(seed stream, count int, look func(v api.Vkey)) {
	s := seed
	for i := range count {
		v := s.key(i % 4)
		look(v)
		spoilt := cloned(v)
		s.spoilKey(&spoilt)
		look(spoilt)
	}
}

// spoilBytes: a key's bytes with a byte more, one less, another one, or a wrong key's.
func (s *stream) spoilBytes(b []byte) []byte {
	at := s.below(len(b))
	if s.below(3) > 0 {
		at = s.below(min(50, len(b)))
	}
	n := byte(s.any())
	switch s.below(6) {
	case 0:
		return slices.Insert(slices.Clone(b), at, n)
	case 1:
		return slices.Delete(slices.Clone(b), at, at+1)
	case 2:
		return slices.Clone(b[:at])
	case 3:
		return append(slices.Clone(b), n)
	}
	b = slices.Clone(b)
	b[at] = n
	return b
}

func TestTheStreamIsOfAllKinds(t *testing.T) {
	errors, classes := map[api.Errno]int{}, map[int]int{}
	sheets(1, 1500, func(sort int, c api.Circuit, k int, s api.Sheet) {
		wrong := sheet.Fit(c, k, s)
		errors[wrong]++
		if wrong == 0 && len(c.Equal) > 0 {
			classes[len(tiedBy(s.Copies, at(0, 1<<k-5)))]++
		}
	})
	for wrong, least := range map[api.Errno]int{0: 1500, 60: 100, 110: 50, 120: 50, 130: 500} {
		if errors[wrong] < least {
			t.Errorf("too few of a kind: %v", errors)
		}
	}
	if classes[1] < 200 || classes[2] < 30 || classes[3] < 30 || len(classes) < 20 {
		t.Errorf("too few classes of a size: %v", classes)
	}
	right, plain := map[api.Errno]int{}, 0
	keys(2, 500, func(v api.Vkey) {
		wrong := checkBy(v)
		right[wrong]++
		if wrong == 0 && same(plainBy(v), v) {
			plain++
		}
	})
	if right[0] < 500 || right[150] < 300 || plain < 3 {
		t.Errorf("too few of a kind: %v, %d", right, plain)
	}
}
