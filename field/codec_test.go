package field

import (
	"bytes"
	"math"
	"math/big"
	"slices"
	"testing"

	"sigil/api"
)

// leastFirst: a number's bytes by math/big, the one of the least weight first.
func leastFirst(n *big.Int, size int) []byte {
	b := n.FillBytes(make([]byte, size))
	slices.Reverse(b)
	return b
}

// P2.6

func TestEncode(t *testing.T) {
	eachSort(func(sort int, m *big.Int) {
		s := stream(60 + sort)
		list := edges(sort)
		for range 2000 {
			list = append(list, s.elem())
		}
		for _, a := range list {
			want := leastFirst(bigOf(mod(sort, bigOf(a))), 32)
			if got := Encode(sort, a); !bytes.Equal(got, want) {
				t.Errorf("Encode(%d, %v): %v, not %v", sort, a, got, want)
			}
			if got, e := Decode(sort, want); got != mod(sort, bigOf(a)) || e != api.OK {
				t.Errorf("Decode(%d, %v): %v %d", sort, want, got, e)
			}
		}
	})
}

func TestDecode(t *testing.T) {
	eachSort(func(sort int, m *big.Int) {
		for _, a := range edges(sort) {
			got, e := Decode(sort, leastFirst(bigOf(a), 32))
			if bigOf(a).Cmp(m) >= 0 && (got != (api.Elem{}) || e != api.ErrCodec) {
				t.Errorf("Decode(%d) of %v, which isn't below the modulus: %v %d", sort, a, got, e)
			}
			if bigOf(a).Cmp(m) < 0 && (got != a || e != api.OK) {
				t.Errorf("Decode(%d) of %v: %v %d", sort, a, got, e)
			}
		}
		// Each byte counts.
		for i := range 32 {
			b := make([]byte, 32)
			b[i] = 1
			want, inside := new(big.Int).Lsh(big.NewInt(1), uint(8*i)), api.OK
			if want.Cmp(m) >= 0 {
				want, inside = new(big.Int), api.ErrCodec
			}
			if got, e := Decode(sort, b); got != elemOf(want) || e != inside {
				t.Errorf("Decode(%d) of a byte 1 at %d: %v %d", sort, i, got, e)
			}
		}
	})
}

func TestDecodeLengths(t *testing.T) {
	eachSort(func(sort int, m *big.Int) {
		for _, n := range []int{0, 1, 8, 16, 24, 31, 33, 40, 63, 64, 65, 1000} {
			for _, fill := range []byte{0, 1, 255} {
				b := bytes.Repeat([]byte{fill}, n)
				if got, e := Decode(sort, b); got != (api.Elem{}) || e != api.ErrCodec {
					t.Errorf("Decode(%d) of %d bytes: %v %d", sort, n, got, e)
				}
			}
		}
		if got, e := Decode(sort, nil); got != (api.Elem{}) || e != api.ErrCodec {
			t.Errorf("Decode(%d) of none: %v %d", sort, got, e)
		}
		if got, e := Decode(sort, make([]byte, 32)); got != (api.Elem{}) || e != api.OK {
			t.Errorf("Decode(%d) of 32 bytes 0: %v %d", sort, got, e)
		}
	})
}

func TestWide(t *testing.T) {
	eachSort(func(sort int, m *big.Int) {
		look := func(n *big.Int) {
			if got, e := Wide(sort, leastFirst(n, 64)); got != mod(sort, n) || e != api.OK {
				t.Errorf("Wide(%d) of %v: %v %d", sort, n, got, e)
			}
		}
		for _, lo := range edges(sort) {
			for _, hi := range edges(sort) {
				look(new(big.Int).Or(bigOf(lo), new(big.Int).Lsh(bigOf(hi), 256)))
			}
		}
		for i := range 64 {
			look(new(big.Int).Lsh(big.NewInt(1), uint(8*i)))
		}
		all := bytes.Repeat([]byte{255}, 64)
		want := new(big.Int).Lsh(big.NewInt(1), 512)
		if got, e := Wide(sort, all); got != mod(sort, want.Sub(want, big.NewInt(1))) || e != api.OK {
			t.Errorf("Wide(%d) of all bits 1: %v %d", sort, got, e)
		}
		for _, n := range []int{0, 1, 31, 32, 33, 63, 65, 128, 1000} {
			for _, fill := range []byte{0, 255} {
				if got, e := Wide(sort, bytes.Repeat([]byte{fill}, n)); got != (api.Elem{}) || e != api.ErrCodec {
					t.Errorf("Wide(%d) of %d bytes: %v %d", sort, n, got, e)
				}
			}
		}
		if got, e := Wide(sort, nil); got != (api.Elem{}) || e != api.ErrCodec {
			t.Errorf("Wide(%d) of none: %v %d", sort, got, e)
		}
	})
}

// P2.7

func TestBytesAreLeftAlone(t *testing.T) {
	eachSort(func(sort int, m *big.Int) {
		behind := bytes.Repeat([]byte{1, 2, 3, 255}, 40)
		before := bytes.Clone(behind)
		for _, n := range []int{0, 31, 32, 33, 63, 64, 65} {
			Decode(sort, behind[:n])
			Wide(sort, behind[:n])
			if !bytes.Equal(behind, before) {
				t.Errorf("%d bytes were changed", n)
			}
		}
		a := api.Elem{math.MaxUint64, 2, 3, 4}
		first, second := Encode(sort, a), Encode(sort, a)
		first = first[:cap(first)]
		for i := range first {
			first[i] = 77
		}
		if !bytes.Equal(second, Encode(sort, a)) || !bytes.Equal(second, leastFirst(bigOf(mod(sort, bigOf(a))), 32)) {
			t.Errorf("two answers of Encode share memory")
		}
	})
}
