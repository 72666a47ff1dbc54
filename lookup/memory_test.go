package lookup

import (
	"slices"
	"testing"

	"sigil/api"
	"sigil/tape"
)

// given is all that the calls are handed, each list with more behind its length, and all of that memory.
type given struct {
	asked
	looked looked
	theta  api.Elem
	memory [][]api.Elem
}

// roomy: a list with others behind its length.
func (g *given) roomy(list []api.Elem) []api.Elem {
	all := slices.Concat(list, slices.Repeat([]api.Elem{{1}, greatest}, 20))
	g.memory = append(g.memory, all)
	return all[:len(list):len(all)]
}

func givenOf(a asked, l looked, theta api.Elem) *given {
	g := &given{asked: a, looked: l, theta: theta}
	for i, list := range a.lists {
		g.lists[i] = g.roomy(list)
	}
	g.coins = g.roomy(a.coins)
	return g
}

// answer is what all calls answer: the one of Compress, and the lists of Permute, Product and Checks.
type answer struct {
	one                             api.Elem
	sorted, matched, product, check []api.Elem
	errors                          [2]api.Errno
}

func (g *given) answered() answer {
	var a answer
	a.one = Compress(g.sort, g.theta, g.lists[ofInputs])
	a.sorted, a.matched, a.errors[0] = Permute(g.sort, g.lists[ofInputs], g.lists[ofTables])
	a.product, a.errors[1] = g.by(tape.Purse(g.coins))
	a.check = g.looked.answered()
	return a
}

func (a *answer) lists() []*[]api.Elem {
	return []*[]api.Elem{&a.sorted, &a.matched, &a.product, &a.check}
}

func (a answer) copied() answer {
	for _, list := range a.lists() {
		*list = slices.Clone(*list)
	}
	return a
}

func (a answer) same(b answer) bool {
	ours, theirs := a.lists(), b.lists()
	return a.one == b.one && a.errors == b.errors && slices.EqualFunc(ours, theirs, func(x, y *[]api.Elem) bool { return slices.Equal(*x, *y) })
}

// writeOver: writes over a list, and over the spare room behind it.
func writeOver(list []api.Elem) {
	list = list[:cap(list)]
	for i := range list {
		list[i] = api.Elem{77}
	}
}

func (a answer) writeOver() {
	for _, list := range a.lists() {
		writeOver(*list)
	}
}

// givens: ones that are answered, and ones that are refused in all ways.
func givens(t *testing.T, look func(g *given)) {
	t.Helper()
	s := stream(60)
	sizes(func(sort, k int) {
		one := func(a asked) {
			l := s.looked(sort)
			l.sort = a.sort
			look(givenOf(a, l, s.wide()))
		}
		for range 3 {
			found := s.lookedUp(t, sort, k)
			one(found)
			one(s.any(sort, k))
			one(found.zeroAt(ofSorted, s.below(1<<k-4)))
			for list := range ofAll {
				short := found.cloned()
				short.lists[list] = short.lists[list][1:]
				one(short)
			}
			short := found.cloned()
			short.coins = short.coins[:s.below(3)]
			one(short)
			wrong := found
			wrong.sort = 4
			one(wrong)
			wrong.sort, wrong.k = sort, 6
			one(wrong)
		}
	})
}

// P17.5

func TestMemory(t *testing.T) {
	var met [2]map[api.Errno]int
	met[0], met[1] = map[api.Errno]int{}, map[api.Errno]int{}
	givens(t, func(g *given) {
		kept := clonedLists(g.memory)
		got := g.answered()
		for call, e := range got.errors {
			met[call][e]++
		}
		want := got.copied()
		if !sameLists(g.memory, kept) {
			t.Errorf("%v: what was handed in has changed", g.asked)
		}
		got.writeOver()
		if !sameLists(g.memory, kept) {
			t.Errorf("%v: what was answered is what was handed in", g.asked)
		}
		if again := g.answered(); !again.same(want) {
			t.Errorf("%v once the answer was written over: %v, not %v", g.asked, again, want)
		}
	})
	for call, all := range [][]api.Errno{
		{api.OK, api.ErrSort, api.ErrLength, api.ErrUnsatisfied},
		{api.OK, api.ErrSort, api.ErrSize, api.ErrLength, api.ErrDegenerate, api.ErrTape},
	} {
		for _, e := range all {
			if met[call][e] == 0 {
				t.Errorf("none is answered by %d", e)
			}
		}
	}
}

// What was answered stays as it is when what was handed in is written over, and when there are later calls.
func TestAnswersStay(t *testing.T) {
	s := stream(61)
	givens(t, func(g *given) {
		got := g.answered()
		want := got.copied()
		for _, list := range g.memory {
			writeOver(list)
		}
		givenOf(s.lookedUp(t, g.sort&3, 3), s.looked(g.sort&3), g.theta).answered()
		if !got.same(want) {
			t.Errorf("another answer later on: %v, not %v", got, want)
		}
	})
}

// Two answers share no memory, and no two lists of one answer do, spare room neither.
func TestAnswersAreApart(t *testing.T) {
	givens(t, func(g *given) {
		a, b := g.answered(), g.answered()
		want := b.copied()
		a.writeOver()
		if !b.same(want) {
			t.Errorf("%v: two answers share memory", g.asked)
		}
		for i, list := range b.lists() {
			writeOver(*list)
			*list = slices.Clone(*want.lists()[i])
			if !b.same(want) {
				t.Errorf("%v: the list %d shares memory", g.asked, i)
			}
		}
	})
}

// The same list may be handed in at several places.
func TestOneListForAll(t *testing.T) {
	s := stream(62)
	sizes(func(sort, k int) {
		a := s.any(sort, k)
		for i := range a.lists {
			a.lists[i] = a.lists[0]
		}
		kept := slices.Clone(a.lists[0])
		permuted(t, sort, a.lists[0], a.lists[0])
		if e := a.told(t); e != api.OK || !slices.Equal(a.lists[0], kept) {
			t.Errorf("%v: %d", a, e)
		}
	})
}
