package keys

import (
	"reflect"
	"slices"
	"testing"

	"sigil/api"
	"sigil/curve"
)

// given is all that is handed in: parameters, a circuit, a sheet, a key and bytes, each of their lists with more behind its length, and all of that memory.
type given struct {
	p   api.Params
	c   api.Circuit
	k   int
	s   api.Sheet
	key api.Vkey
	b   []byte
	memory
}

// memory is all lists that were handed in, with what lies behind their length.
type memory struct {
	nodes   [][]api.Node
	places  [][]int
	lookups [][]api.Lookup
	equal   [][]api.Column
	columns [][][]api.Elem
	values  [][]api.Elem
	copies  []api.Copy
	points  [][]api.Point
	bytes   []byte
}

// roomy: a list with others behind its length, and all of that memory.
func roomy[T any](list []T, behind ...T) ([]T, []T) {
	all := append(slices.Clone(list), behind...)
	return all[:len(list):len(all)], all
}

// keep: a roomy list, all of whose memory is kept.
func keep[T any](kept *[][]T, list []T, behind ...T) []T {
	cut, all := roomy(list, behind...)
	*kept = append(*kept, all)
	return cut
}

func (m *memory) roomyCircuit(c api.Circuit) api.Circuit {
	c.Nodes = keep(&m.nodes, c.Nodes, api.Node{Op: 3}, api.Node{Op: 2, B: 1}, api.Node{})
	c.Gates = keep(&m.places, c.Gates, 0, 1, 99)
	c.Lookups = keep(&m.lookups, c.Lookups, api.Lookup{}, api.Lookup{Inputs: []int{0}, Tables: []int{0}})
	for i, l := range c.Lookups {
		c.Lookups[i] = api.Lookup{Inputs: keep(&m.places, l.Inputs, 0, 1, 99), Tables: keep(&m.places, l.Tables, 2, 3)}
	}
	c.Equal = keep(&m.equal, c.Equal, api.Column{Kind: 3}, api.Column{})
	return c
}

// roomyColumns: columns with room for more rows than there are.
func (m *memory) roomyColumns(list [][]api.Elem) [][]api.Elem {
	list = keep(&m.columns, list, []api.Elem{{1}}, nil)
	for i, values := range list {
		list[i] = keep(&m.values, values, slices.Repeat([]api.Elem{{1}, greatest}, 20)...)
	}
	return list
}

func (m *memory) roomyPoints(c int, list []api.Point) []api.Point {
	return keep(&m.points, list, curve.Infinity(), setup(c&3, 3).G[0], api.Point{})
}

func givenOf(p api.Params, c api.Circuit, k int, s api.Sheet, v api.Vkey, b []byte) *given {
	g := &given{p: p, k: k, s: s, key: v}
	g.p.G = g.roomyPoints(p.Curve, p.G)
	g.c, g.key.Circuit = g.roomyCircuit(c), g.roomyCircuit(v.Circuit)
	g.s.Fixed, g.s.Advice, g.s.Instance = g.roomyColumns(s.Fixed), g.roomyColumns(s.Advice), g.roomyColumns(s.Instance)
	g.s.Copies, g.copies = roomy(s.Copies, api.Copy{}, api.Copy{A: api.Cell{Col: 99}})
	g.key.Fixed, g.key.Sigma = g.roomyPoints(v.Curve, v.Fixed), g.roomyPoints(v.Curve, v.Sigma)
	g.b, g.bytes = roomy(b, make([]byte, 70)...)
	return g
}

// clonedLists: the same lists in memory of their own.
func clonedLists[T any](lists [][]T) [][]T {
	var kept [][]T
	for _, list := range lists {
		kept = append(kept, slices.Clone(list))
	}
	return kept
}

// copied: the same lists in memory of their own.
func (m *memory) copied() *memory {
	kept := &memory{
		nodes: clonedLists(m.nodes), places: clonedLists(m.places), lookups: clonedLists(m.lookups), equal: clonedLists(m.equal),
		columns: clonedLists(m.columns), values: clonedLists(m.values), copies: slices.Clone(m.copies), points: clonedLists(m.points), bytes: slices.Clone(m.bytes),
	}
	for _, list := range kept.lookups {
		for i, l := range list {
			list[i] = api.Lookup{Inputs: slices.Clone(l.Inputs), Tables: slices.Clone(l.Tables)}
		}
	}
	for _, list := range kept.columns {
		for i, values := range list {
			list[i] = slices.Clone(values)
		}
	}
	return kept
}

func (m *memory) same(kept *memory) bool { return reflect.DeepEqual(m, kept) }

// writeOver: writes over a list, and over the spare room behind it.
func writeOver[T any](list []T, with T) {
	list = list[:cap(list)]
	for i := range list {
		list[i] = with
	}
}

func writeOverAll[T any](lists [][]T, with T) {
	for _, list := range lists {
		writeOver(list, with)
	}
}

// spoilAll: writes over all that was handed in.
func (m *memory) spoilAll() {
	writeOverAll(m.nodes, api.Node{Op: 77})
	writeOverAll(m.places, 77)
	writeOverAll(m.equal, api.Column{Kind: 77})
	writeOverAll(m.values, api.Elem{77})
	writeOverAll(m.points, api.Point{X: api.Elem{77}})
	writeOverAll(m.lookups, api.Lookup{})
	writeOverAll(m.columns, nil)
	writeOver(m.copies, api.Copy{A: api.Cell{Col: 77}})
	writeOver(m.bytes, 77)
}

// answer is what all calls answer.
type answer struct {
	errors       [7]api.Errno
	next         [][]api.Cell
	fixed, sigma [][]api.Elem
	made, read   api.Vkey
	bytes        []byte
	digest       api.Elem
}

func (g *given) answered() answer {
	var a answer
	a.next, a.errors[0] = Next(g.c, g.k, g.s)
	a.fixed, a.sigma, a.errors[1] = Columns(g.p.Curve, g.c, g.k, g.s)
	a.made, a.errors[2] = Make(g.p, g.c, g.s)
	a.errors[3] = Check(g.key)
	a.bytes, a.errors[4] = Encode(g.key)
	a.read, a.errors[5] = Decode(g.b)
	a.digest, a.errors[6] = Digest(g.key)
	return a
}

func (a answer) copied() answer {
	a.next, a.fixed, a.sigma = clonedLists(a.next), clonedLists(a.fixed), clonedLists(a.sigma)
	a.made, a.read, a.bytes = cloned(a.made), cloned(a.read), slices.Clone(a.bytes)
	return a
}

func (a answer) same(b answer) bool {
	return a.errors == b.errors && sameCells(a.next, b.next) && sameColumns(a.fixed, b.fixed) && sameColumns(a.sigma, b.sigma) &&
		same(a.made, b.made) && same(a.read, b.read) && slices.Equal(a.bytes, b.bytes) && a.digest == b.digest
}

// part is a list of an answer: how it is written over, and how what was written over is put right.
type part struct {
	over, mend func()
}

func partOf[T any](list *[]T, with T) part {
	var kept []T
	return part{func() {
		kept = slices.Clone(*list)
		writeOver(*list, with)
	}, func() { *list = kept }}
}

func keyParts(v *api.Vkey) []part {
	c := &v.Circuit
	var parts []part
	for i := range c.Lookups {
		parts = append(parts, partOf(&c.Lookups[i].Inputs, 77), partOf(&c.Lookups[i].Tables, 77))
	}
	return append(parts, partOf(&c.Nodes, api.Node{Op: 77}), partOf(&c.Gates, 77), partOf(&c.Lookups, api.Lookup{}), partOf(&c.Equal, api.Column{Kind: 77}),
		partOf(&v.Fixed, api.Point{X: api.Elem{77}}), partOf(&v.Sigma, api.Point{X: api.Elem{77}}))
}

// parts: all lists of an answer, those within others first.
func (a *answer) parts() []part {
	parts := []part{partOf(&a.bytes, 77)}
	for i := range a.next {
		parts = append(parts, partOf(&a.next[i], api.Cell{Col: 77}))
	}
	for _, columns := range [][][]api.Elem{a.fixed, a.sigma} {
		for i := range columns {
			parts = append(parts, partOf(&columns[i], api.Elem{77}))
		}
	}
	parts = append(parts, partOf(&a.next, nil), partOf(&a.fixed, nil), partOf(&a.sigma, nil))
	return append(append(parts, keyParts(&a.made)...), keyParts(&a.read)...)
}

func (a answer) writeOver() {
	for _, p := range a.parts() {
		p.over()
	}
}

// givens: right ones and ones that aren't, roomy ones.
func givens(count int, look func(g *given)) {
	for c := range 4 {
		of, s := full()
		v := fullKey(c, 3)
		look(givenOf(setup(c, 3), of, 3, s, v, rawBy(plainBy(v))))
		of, s = least()
		look(givenOf(setup(c, 4), of, 4, s, leastKey(c, 4), rawBy(leastKey(c, 4))))
	}
	stream := stream(70)
	sheets(71, count, func(sort int, c api.Circuit, k int, s api.Sheet) {
		v := stream.key(sort)
		b := rawBy(plainBy(v))
		if stream.below(3) == 0 {
			b = stream.spoilBytes(b)
		}
		if stream.below(3) == 0 {
			stream.spoilKey(&v)
		}
		look(givenOf(setup(sort, max(0, min(k, 5))), c, k, s, v, b))
	})
}

// P15.7

func TestMemory(t *testing.T) {
	givens(100, func(g *given) {
		kept := g.memory.copied()
		got := g.answered()
		want := got.copied()
		if !g.memory.same(kept) {
			t.Errorf("%v, %v, %s: what was handed in has changed", g.c, g.s, show(g.key))
		}
		got.writeOver()
		if !g.memory.same(kept) {
			t.Errorf("%v, %v, %s: what was answered is what was handed in", g.c, g.s, show(g.key))
		}
		if again := g.answered(); !again.same(want) {
			t.Errorf("%v, %v, %s once the answer was written over: %v, not %v", g.c, g.s, show(g.key), again, want)
		}
	})
}

// What was answered stays as it is when what was handed in is written over, and when there are later calls.
func TestAnswersStay(t *testing.T) {
	givens(100, func(g *given) {
		got := g.answered()
		want := got.copied()
		g.spoilAll()
		g.answered()
		c, s := full()
		v, b := byHand()
		givenOf(setup(1, 3), c, 3, s, v, b).answered()
		if !got.same(want) {
			t.Errorf("another answer later on: %v, not %v", got, want)
		}
	})
}

// Two answers share no memory, spare room neither.
func TestAnswersAreApart(t *testing.T) {
	givens(100, func(g *given) {
		a, b := g.answered(), g.answered()
		want := b.copied()
		a.writeOver()
		if !b.same(want) {
			t.Errorf("%v, %v, %s: two answers share memory", g.c, g.s, show(g.key))
		}
	})
}

// No two lists of one answer share memory: each is written over, and all others are as they were.
func TestListsAreApart(t *testing.T) {
	givens(30, func(g *given) {
		got := g.answered()
		want := got.copied()
		for i, p := range got.parts() {
			p.over()
			p.mend()
			if !got.same(want) {
				t.Errorf("%v, %v, %s: the list %d shares memory", g.c, g.s, show(g.key), i)
			}
		}
	})
}

// A nil list and an empty one are the same.
func TestEmptyLists(t *testing.T) {
	c, s := least()
	v := leastKey(0, 3)
	want := givenOf(setup(0, 3), c, 3, s, v, rawBy(v)).answered()
	c.Nodes, c.Gates, c.Lookups, c.Equal = []api.Node{}, []int{}, []api.Lookup{}, []api.Column{}
	s.Fixed, s.Advice, s.Instance, s.Copies = [][]api.Elem{}, [][]api.Elem{{}}, [][]api.Elem{}, []api.Copy{}
	v.Circuit, v.Fixed, v.Sigma = c, []api.Point{}, []api.Point{}
	got := givenOf(setup(0, 3), c, 3, s, v, rawBy(v)).answered()
	if !got.same(want) || got.errors != ([7]api.Errno{}) {
		t.Errorf("%v, not %v", got, want)
	}
	for _, b := range [][]byte{nil, {}} {
		if v, e := Decode(b); e != api.ErrVkey || !isNothing(v) {
			t.Errorf("%v, %d", v, e)
		}
	}
}
