package ipa

import (
	"bytes"
	"slices"
	"testing"

	"sigil/api"
	"sigil/tape"
)

// roomy: a list with others behind its length, and all of that memory.
func roomy[T any](list []T, behind ...T) ([]T, []T) {
	all := append(slices.Clone(list), behind...)
	return all[:len(list)], all
}

// P10.4

func TestListsAreLeftAlone(t *testing.T) {
	sizes(func(c, k int) {
		s := stream(300 + 10*c + k)
		o := drawn(t, c, k, &s)
		list := o.commitment(t)
		points, allPoints := roomy(o.params.G, o.params.W, o.params.U, infinity)
		coeffs, allCoeffs := roomy(o.coeffs, s.elems(9)...)
		commitment, allTerms := roomy([]api.Term{{K: greatest, P: infinity}, list[0]}, api.Term{}, api.Term{K: greatest}, list[0])
		keptPoints, keptCoeffs, keptTerms := slices.Clone(allPoints), slices.Clone(allCoeffs), slices.Clone(allTerms)
		unchanged := func(when string) {
			if !slices.Equal(allPoints, keptPoints) || !slices.Equal(allCoeffs, keptCoeffs) || !slices.Equal(allTerms, keptTerms) {
				t.Errorf("on %d of the size %d: a list has changed %s", c, k, when)
			}
		}
		o.params.G, o.coeffs = points, coeffs
		proof := o.said(t)
		unchanged("by Open")
		terms := verified(t, o, proof, commitment, o.x, o.value())
		unchanged("by Verify")
		decided(t, c, terms, true)
		kept := slices.Clone(terms)
		decided(t, c, terms[1:2], false)
		if !slices.Equal(terms, kept) {
			t.Errorf("on %d of the size %d: terms have changed by Decide", c, k)
		}
		o.coins = o.coins[:len(o.coins)-1]
		o.refused(t, api.ErrTape)
		unverified(t, o.params, readerOf(t, c, o.src, proof[:31]), commitment, api.ErrShort)
		unchanged("where they are refused")
	})
}

func TestTermsAreNewMemory(t *testing.T) {
	sizes(func(c, k int) {
		s := stream(310 + 10*c + k)
		o := drawn(t, c, k, &s)
		proof, commitment := o.said(t), o.commitment(t)
		kept, keptPoints := slices.Clone(commitment), slices.Clone(o.params.G)
		first := verified(t, o, proof, commitment, o.x, o.value())
		second := verified(t, o, proof, commitment, o.x, o.value())
		want := slices.Clone(second)
		first = first[:cap(first)]
		for i := range first {
			first[i] = api.Term{K: greatest, P: infinity}
		}
		if !slices.Equal(second, want) || !slices.Equal(commitment, kept) || !slices.Equal(o.params.G, keptPoints) {
			t.Errorf("on %d of the size %d: an answer shares memory", c, k)
		}
		// Nor does it hang on what was handed in.
		commitment[0] = api.Term{}
		clear(o.params.G)
		if !slices.Equal(second, want) {
			t.Errorf("on %d of the size %d: an answer hangs on what was handed in", c, k)
		}
	})
}

// The same is said at every time, whatever was refused before.
func TestOpenAgain(t *testing.T) {
	sizes(func(c, k int) {
		s := stream(320 + 10*c + k)
		o := drawn(t, c, k, &s)
		first := o.said(t)
		Open(o.params, writerOf(t, c, taped()), tape.Purse(nil), o.coeffs, o.blind, o.x)
		Open(o.params, writerOf(t, c, taped(api.Elem{}, api.Elem{})), tape.Purse(o.coins), o.coeffs, o.blind, o.x)
		if !bytes.Equal(o.said(t), first) {
			t.Errorf("on %d of the size %d: another time something else is said", c, k)
		}
	})
}
