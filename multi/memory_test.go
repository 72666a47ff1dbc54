package multi

import (
	"bytes"
	"slices"
	"testing"

	"sigil/api"
	"sigil/tape"
)

// roomy: a list with others behind its length, and all of that memory.
func roomy[T any](list []T, behind ...T) ([]T, []T) {
	all := append(slices.Clone(list), behind...)
	return all[:len(list)], all
}

// watched is an opening whose lists have others behind their length, and how all of that memory was.
type watched struct {
	opening
	points, keptPoints   []api.Point
	numbers, keptNumbers [][]api.Elem
	lists, keptLists     [][]api.Elem
	asked, keptAsked     []api.Ask
}

// watch: the opening, with memory that is watched.
func watch(s *stream, o opening) *watched {
	w := &watched{opening: o}
	w.opening.params.G, w.points = roomy(o.params.G, o.params.W, o.params.U, infinity)
	w.opening.asks, w.asked = roomy(o.asks, api.Ask{Poly: -1}, o.asks[0])
	number := func(list []api.Elem) []api.Elem {
		short, all := roomy(list, s.elems(9)...)
		w.numbers = append(w.numbers, all)
		return short
	}
	w.opening.blinds = number(o.blinds)
	w.opening.polys = slices.Clone(o.polys)
	for i, coeffs := range o.polys {
		w.opening.polys[i] = number(coeffs)
	}
	w.opening.polys, w.lists = roomy(w.opening.polys, nil, s.elems(2))
	w.keptPoints, w.keptAsked, w.keptLists = slices.Clone(w.points), slices.Clone(w.asked), slices.Clone(w.lists)
	for _, all := range w.numbers {
		w.keptNumbers = append(w.keptNumbers, slices.Clone(all))
	}
	return w
}

// unchanged: is all of that memory as it was?
func (w *watched) unchanged(t *testing.T, when string) {
	t.Helper()
	same := slices.Equal(w.points, w.keptPoints) && slices.Equal(w.asked, w.keptAsked)
	for i, all := range w.numbers {
		same = same && slices.Equal(all, w.keptNumbers[i])
	}
	for i, list := range w.lists {
		same = same && slices.Equal(list, w.keptLists[i])
	}
	if !same {
		t.Errorf("on %d of the size %d: a list has changed %s", w.params.Curve, w.params.K, when)
	}
}

// P18.3

func TestListsAreLeftAlone(t *testing.T) {
	sizes(func(c, k int) {
		s := stream(4000*c + k)
		for range 3 {
			o := s.drawn(t, c, k)
			commitments, allCommitments := roomy(o.commitments(t), o.params.W, infinity, api.Point{})
			kept := slices.Clone(allCommitments)
			w := watch(&s, o)
			proof := w.said(t)
			w.unchanged(t, "by Open")
			w.heard(t, proof, commitments, w.asks)
			w.unchanged(t, "by Verify")
			w.coins = w.coins[:len(w.coins)-1]
			w.refused(t, api.ErrTape)
			w.unheard(t, proof[:31], commitments, api.ErrShort)
			w.src.Tape = slices.Clone(w.src.Tape)
			w.src.Tape[2] = elemOf(w.point(w.asks[0].Rot))
			w.refused(t, api.ErrDegenerate)
			w.unheard(t, proof, commitments, api.ErrDegenerate)
			w.unchanged(t, "where they are refused")
			if !slices.Equal(allCommitments, kept) {
				t.Errorf("on %d of the size %d: the commitments have changed", c, k)
			}
		}
	})
}

func TestTermsAreNewMemory(t *testing.T) {
	sizes(func(c, k int) {
		s := stream(4100*c + k)
		o := s.drawn(t, c, k)
		proof, commitments, asks := o.said(t), o.commitments(t), o.answered()
		kept, keptPoints, keptAsks := slices.Clone(commitments), slices.Clone(o.params.G), slices.Clone(asks)
		first, second := o.heard(t, proof, commitments, asks), o.heard(t, proof, commitments, asks)
		want := slices.Clone(second)
		first = first[:cap(first)]
		for i := range first {
			first[i] = api.Term{K: greatest, P: infinity}
		}
		if !slices.Equal(second, want) || !slices.Equal(commitments, kept) || !slices.Equal(o.params.G, keptPoints) || !slices.Equal(asks, keptAsks) {
			t.Errorf("on %d of the size %d: an answer shares memory", c, k)
		}
		// Nor does it hang on what was handed in.
		clear(commitments)
		clear(o.params.G)
		clear(asks)
		if !slices.Equal(second, want) {
			t.Errorf("on %d of the size %d: an answer hangs on what was handed in", c, k)
		}
	})
}

// The same is said and heard at every time, whatever was refused before; no order of a map shows.
func TestAgain(t *testing.T) {
	sizes(func(c, k int) {
		s := stream(4200*c + k)
		o := s.blank(t, c, k, 6)
		for place := range o.polys {
			o.asks = append(o.asks, asksFor([]int{place}, s.order(1 << k)[:1+s.below(1<<k)])...)
		}
		o.asks = shuffled(&s, o.asks)
		first, commitments, asks := o.said(t), o.commitments(t), o.answered()
		terms := o.heard(t, first, commitments, asks)
		for range 5 {
			Open(o.params, writerOf(t, c, taped()), tape.Purse(nil), o.polys, o.blinds, o.x, o.asks)
			Verify(o.params, readerOf(t, c, o.src, first[:40]), commitments, o.x, asks)
			if !bytes.Equal(o.said(t), first) {
				t.Errorf("on %d of the size %d: another time something else is said", c, k)
			}
			if !slices.Equal(o.heard(t, first, commitments, asks), terms) {
				t.Errorf("on %d of the size %d: another time other terms are answered", c, k)
			}
		}
	})
}
