package sheet

import (
	"testing"

	"sigil/api"
	"sigil/circuit"
)

// stream gives the same numbers at every run.
type stream uint64

func (s *stream) word() uint64 {
	*s += 0x9e3779b97f4a7c15
	z := uint64(*s)
	z = (z ^ z>>30) * 0xbf58476d1ce4e5b9
	z = (z ^ z>>27) * 0x94d049bb133111eb
	return z ^ z>>31
}

func (s *stream) below(n int) int { return int(s.word() % uint64(n)) }

// any: a number of any size, often a small one.
func (s *stream) any() int {
	switch s.below(6) {
	case 0:
		return int(s.word())
	case 1:
		return far[s.below(len(far))]
	}
	return s.below(40) - 4
}

// elem: mostly one of few elements of a field, in one of several numbers that stand for it.
func (s *stream) elem(sort int) api.Elem {
	switch s.below(12) {
	case 0:
		return beside(sort, s.below(3), 1+s.below(3))
	case 1:
		return api.Elem{s.word(), s.word(), s.word(), s.word()}
	case 2:
		return greatest
	}
	return api.Elem{uint64(s.below(3))}
}

// node: a node that may stand at that place, of one of 2 columns; half of the queries are of their own row.
func (s *stream) node(sort, place int) api.Node {
	n := api.Node{Op: 1 + s.below(8), A: s.any(), B: s.any(), V: s.elem(sort)}
	if place == 0 || s.below(3) == 0 {
		n.Op = 1 + s.below(4)
	}
	switch {
	case n.Op >= 2 && n.Op <= 4:
		n.A, n.B = s.below(2), 0
		if s.below(2) == 0 {
			n.B = s.below(7) - 3
		}
	case n.Op >= 5:
		n.A, n.B = s.below(place), s.below(place)
	}
	return n
}

// places: so many numbers, each below a bound that is above 0.
func (s *stream) places(count, below int) []int {
	list := make([]int, count)
	for i := range list {
		list[i] = s.below(below)
	}
	return list
}

// circuit: a right one, of 2 to 4 columns of a kind.
func (s *stream) circuit(sort int) api.Circuit {
	for {
		c := api.Circuit{Fixed: 2 + s.below(3), Advice: 2 + s.below(3), Instance: 2 + s.below(3)}
		nodes := 1 + s.below(12)
		for i := range nodes {
			c.Nodes = append(c.Nodes, s.node(sort, i))
		}
		c.Gates = s.places(s.below(5), nodes)
		for range s.below(4) {
			width := 1 + s.below(4)
			c.Lookups = append(c.Lookups, api.Lookup{Inputs: s.places(width, nodes), Tables: s.places(width, nodes)})
		}
		for range s.below(5) {
			c.Equal = append(c.Equal, api.Column{Kind: 2 + s.below(3), Col: s.below(2)})
		}
		if circuit.Check(c) == api.OK {
			return c
		}
	}
}

// sheet: one that fits a right circuit at a size.
func (s *stream) sheet(sort int, c api.Circuit, k int) api.Sheet {
	usable := 1<<k - 4
	var out api.Sheet
	for i, columns := range []*[][]api.Elem{&out.Fixed, &out.Advice, &out.Instance} {
		for range []int{c.Fixed, c.Advice, c.Instance}[i] {
			values := make([]api.Elem, s.below(usable+1))
			for row := range values {
				values[row] = s.elem(sort)
			}
			*columns = append(*columns, values)
		}
	}
	if len(c.Equal) > 0 {
		for range s.below(6) {
			cell := func() api.Cell { return api.Cell{Col: s.below(len(c.Equal)), Row: s.below(usable)} }
			out.Copies = append(out.Copies, api.Copy{A: cell(), B: cell()})
		}
	}
	return out
}

// spoil: one thing of a circuit, a size or a sheet is another one; it may be right all the same.
func (s *stream) spoil(c *api.Circuit, k *int, sheet *api.Sheet) {
	n := s.any()
	kinds := []*[][]api.Elem{&sheet.Fixed, &sheet.Advice, &sheet.Instance}
	columns := kinds[s.below(3)]
	switch s.below(9) {
	case 0:
		*[]*int{&c.Fixed, &c.Advice, &c.Instance}[s.below(3)] = n
	case 1:
		one := &c.Nodes[s.below(len(c.Nodes))]
		*[]*int{&one.Op, &one.A, &one.B}[s.below(3)] = n
	case 2:
		*k = n
	case 3:
		*columns = (*columns)[1:]
	case 4:
		*columns = append(*columns, nil)
	case 5:
		(*columns)[s.below(len(*columns))] = make([]api.Elem, s.below(40))
	case 6:
		sheet.Copies = make([]api.Copy, s.below(300))
	default:
		if len(sheet.Copies) > 0 {
			one := &sheet.Copies[s.below(len(sheet.Copies))]
			*[]*int{&one.A.Col, &one.A.Row, &one.B.Col, &one.B.Row}[s.below(4)] = n
		}
	}
}

func TestTheStreamIsOfAllKinds(t *testing.T) {
	s := stream(1)
	faults, errors, whole := map[int]int{}, map[api.Errno]int{}, 0
	for i := range 1500 {
		sort, k := i%4, 3+i%3
		c := s.circuit(sort)
		sheet := s.sheet(sort, c, k)
		found := faultsBy(sort, c, k, sheet)
		for _, f := range found {
			faults[f.Kind]++
		}
		if len(found) == 0 {
			whole++
		}
		s.spoil(&c, &k, &sheet)
		errors[fitBy(c, k, sheet)]++
	}
	if faults[1] < 1000 || faults[2] < 1000 || faults[3] < 300 || whole < 100 {
		t.Errorf("too few of a kind: %v, %d", faults, whole)
	}
	if errors[0] < 100 || errors[110] < 100 || errors[120] < 20 || errors[60] < 50 || errors[130] < 300 {
		t.Errorf("too few of a kind: %v", errors)
	}
}
