package region

import (
	"testing"

	"sigil/api"
	"sigil/circuit"
)

// stream gives the same numbers at every run.
type stream uint64

func (s *stream) word() uint64 {
	*s += 0x9e3779b97f4a7c15
	z := uint64(*s)
	z = (z ^ z>>30) * 0xbf58476d1ce4e5b9
	z = (z ^ z>>27) * 0x94d049bb133111eb
	return z ^ z>>31
}

func (s *stream) below(n int) int { return int(s.word() % uint64(n)) }

// any: a number of any size, often a small one.
func (s *stream) any() int {
	switch s.below(6) {
	case 0:
		return int(s.word())
	case 1:
		return far[s.below(len(far))]
	}
	return s.below(40) - 4
}

// elem: a number of any size, often 0.
func (s *stream) elem() api.Elem {
	switch s.below(4) {
	case 0:
		return api.Elem{}
	case 1:
		return greatest
	case 2:
		return api.Elem{uint64(1 + s.below(9))}
	}
	return api.Elem{s.word(), s.word(), s.word(), s.word()}
}

func (s *stream) elems(count int) []api.Elem {
	var list []api.Elem
	for range count {
		list = append(list, s.elem())
	}
	return list
}

// circuit: a right one, of 1 to 4 columns of a kind, some of which may be copied.
func (s *stream) circuit() api.Circuit {
	for {
		c := api.Circuit{Fixed: 1 + s.below(4), Advice: 1 + s.below(4), Instance: 1 + s.below(4)}
		for range s.below(7) {
			c.Equal = append(c.Equal, api.Column{Kind: 2 + s.below(3), Col: s.below(4)})
		}
		if circuit.Check(c) == api.OK {
			return c
		}
	}
}

// region: a right one of a right circuit, beside tables.
func (s *stream) region(c api.Circuit, k int, tables []api.Table) api.Region {
	r := api.Region{Rows: 1 + s.below(1<<k-4)}
	if s.below(4) > 0 {
		r.Rows = 1 + s.below(3)
	}
	for range s.below(7) {
		p := api.Put{Kind: 2 + s.below(2), Col: s.below(4), Off: s.below(r.Rows), V: s.elem()}
		more := api.Region{Rows: r.Rows, Puts: append(r.Puts[:len(r.Puts):len(r.Puts)], p)}
		if regionsBy(c, api.Plan{Regions: []api.Region{more}, Tables: tables}) {
			r = more
		}
	}
	return r
}

// end: a right one of a plan's regions; false, if there is none by those numbers.
func (s *stream) end(c api.Circuit, k int, p api.Plan) (api.End, bool) {
	e := api.End{Region: s.below(len(p.Regions)+1) - 1, Col: s.below(len(c.Equal) + 1), Off: s.below(1<<k - 4)}
	return e, endBy(c, k, p, e)
}

// plan: one that is right for a right circuit at a size. There may be too few rows for it.
func (s *stream) plan(c api.Circuit, k int) api.Plan {
	var p api.Plan
	for col := range c.Fixed {
		if s.below(3) == 0 {
			count := s.below(1<<k - 3)
			if s.below(12) == 0 {
				count++
			}
			p.Tables = append(p.Tables, api.Table{Col: c.Fixed - 1 - col, Values: s.elems(count)})
		}
	}
	for range s.below(2 + 1<<k/2) {
		p.Regions = append(p.Regions, s.region(c, k, p.Tables))
	}
	for range 30 {
		a, first := s.end(c, k, p)
		b, second := s.end(c, k, p)
		if first && second {
			p.Links = append(p.Links, api.Link{A: a, B: b})
		}
	}
	for range c.Instance {
		p.Instance = append(p.Instance, s.elems(s.below(1<<k-3)))
	}
	return p
}

// spoil: one thing of a circuit, a size or a plan is another one; it may be right all the same.
func (s *stream) spoil(c *api.Circuit, k *int, p *api.Plan) {
	n := s.any()
	switch s.below(10) {
	case 0:
		*[]*int{&c.Fixed, &c.Advice, &c.Instance}[s.below(3)] = n
	case 1:
		*k = n
	case 2:
		c.Gates = append(c.Gates, n)
	case 3:
		c.Nodes = append(c.Nodes, api.Node{Op: s.below(10), A: n, B: s.any()})
	case 4:
		p.Instance = append(p.Instance, nil)
	case 5:
		p.Instance[s.below(len(p.Instance))] = s.elems(s.below(40))
	case 6:
		p.Tables = append(p.Tables, api.Table{Col: s.below(5)})
	default:
		s.spoilParts(p, n)
	}
}

// spoilParts: one number of a region, a put, a table or a link is another one.
func (s *stream) spoilParts(p *api.Plan, n int) {
	var list []*int
	for i := range p.Regions {
		list = append(list, &p.Regions[i].Rows)
		for j := range p.Regions[i].Puts {
			one := &p.Regions[i].Puts[j]
			list = append(list, &one.Kind, &one.Col, &one.Off)
		}
	}
	for i := range p.Tables {
		list = append(list, &p.Tables[i].Col)
	}
	for i := range p.Links {
		one := &p.Links[i]
		list = append(list, &one.A.Region, &one.A.Col, &one.A.Off, &one.B.Region, &one.B.Col, &one.B.Off)
	}
	if len(list) > 0 {
		*list[s.below(len(list))] = n
	}
}

// plans: right ones and spoilt ones.
func plans(seed stream, count int, look func(c api.Circuit, k int, p api.Plan)) {
	s := seed
	for i := range count {
		k := 3 + i%3
		c := s.circuit()
		p := s.plan(c, k)
		look(c, k, p)
		spoilt := cloned(p)
		s.spoil(&c, &k, &spoilt)
		look(c, k, spoilt)
	}
}

func TestTheStreamIsOfAllKinds(t *testing.T) {
	errors, later, links := map[api.Errno]int{}, 0, 0
	plans(1, 3000, func(c api.Circuit, k int, p api.Plan) {
		s, starts, wrong := layoutBy(c, k, p)
		errors[wrong]++
		links += len(s.Copies)
		for _, start := range starts {
			if start > 0 {
				later++
			}
		}
	})
	for wrong, least := range map[api.Errno]int{0: 1000, 60: 100, 110: 100, 120: 100, 140: 500, 141: 500} {
		if errors[wrong] < least {
			t.Errorf("too few of a kind: %v", errors)
		}
	}
	if later < 1000 || links < 1000 {
		t.Errorf("too few of a kind: %d, %d", later, links)
	}
}
