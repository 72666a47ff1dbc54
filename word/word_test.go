package word

import (
	"math"
	"math/big"
	"testing"

	"sigil/api"
)

var greatest = api.Elem{math.MaxUint64, math.MaxUint64, math.MaxUint64, math.MaxUint64}

// bigOf: the number as math/big has it, for answers worked out another way.
func bigOf(words ...uint64) *big.Int {
	n := new(big.Int)
	for i := len(words) - 1; i >= 0; i-- {
		n.Lsh(n, 64).Or(n, new(big.Int).SetUint64(words[i]))
	}
	return n
}

func elemOf(t *testing.T, n *big.Int) api.Elem {
	t.Helper()
	if n.Sign() < 0 || n.BitLen() > 256 {
		t.Fatalf("%v is no number below 2^256", n)
	}
	var e api.Elem
	low := new(big.Int)
	for i := range e {
		e[i] = low.And(low.Rsh(n, uint(64*i)), bigOf(math.MaxUint64)).Uint64()
	}
	return e
}

func power(n int) *big.Int { return new(big.Int).Lsh(big.NewInt(1), uint(n)) }

// edges: numbers of few words, and those around powers of 2.
func edges(t *testing.T) []api.Elem {
	list := []api.Elem{{}, greatest, {7, 0, 9}, {0, 0, 0, 5}, {math.MaxUint64, 0, math.MaxUint64}}
	for _, n := range []int{0, 1, 32, 63, 64, 65, 127, 128, 129, 191, 192, 193, 254, 255} {
		p := power(n)
		list = append(list, elemOf(t, p), elemOf(t, new(big.Int).Sub(p, big.NewInt(1))), elemOf(t, new(big.Int).Add(p, big.NewInt(1))))
	}
	return list
}

// stream gives the same numbers at every run. Many of their words are of the kinds at which carries go wrong.
type stream uint64

func (s *stream) word() uint64 {
	*s += 0x9e3779b97f4a7c15
	z := uint64(*s)
	z = (z ^ z>>30) * 0xbf58476d1ce4e5b9
	z = (z ^ z>>27) * 0x94d049bb133111eb
	return z ^ z>>31
}

func (s *stream) elem() api.Elem {
	var e api.Elem
	for i := range e {
		e[i] = s.word()
		switch s.word() % 8 {
		case 0:
			e[i] = 0
		case 1:
			e[i] = math.MaxUint64
		case 2:
			e[i] = 1 << 63
		case 3:
			e[i] %= 4
		case 4:
			e[i] = -(e[i] % 4)
		}
	}
	return e
}

// pairs: each two edges, and many drawn ones.
func pairs(t *testing.T, look func(a, b api.Elem)) {
	for _, a := range edges(t) {
		for _, b := range edges(t) {
			look(a, b)
		}
	}
	s := stream(1)
	for range 20000 {
		look(s.elem(), s.elem())
	}
}

func TestLess(t *testing.T) {
	pairs(t, func(a, b api.Elem) {
		if got, want := Less(a, b), bigOf(a[:]...).Cmp(bigOf(b[:]...)) < 0; got != want {
			t.Errorf("Less(%v, %v): %v", a, b, got)
		}
		if Less(a, a) {
			t.Errorf("Less(%v, itself)", a)
		}
	})
}

func TestAdd(t *testing.T) {
	pairs(t, func(a, b api.Elem) {
		sum := new(big.Int).Add(bigOf(a[:]...), bigOf(b[:]...))
		over := sum.BitLen() > 256
		want := elemOf(t, new(big.Int).Mod(sum, power(256)))
		if got, c := Add(a, b); got != want || c != over {
			t.Errorf("Add(%v, %v): %v %v", a, b, got, c)
		}
	})
	if got, over := Add(greatest, api.Elem{1}); got != (api.Elem{}) || !over {
		t.Errorf("a sum of just 2^256: %v %v", got, over)
	}
	if got, over := Add(greatest, api.Elem{}); got != greatest || over {
		t.Errorf("a sum just below 2^256: %v %v", got, over)
	}
}

func TestSub(t *testing.T) {
	pairs(t, func(a, b api.Elem) {
		diff := new(big.Int).Sub(bigOf(a[:]...), bigOf(b[:]...))
		want := elemOf(t, new(big.Int).Mod(diff, power(256)))
		if got, below := Sub(a, b); got != want || below != (diff.Sign() < 0) {
			t.Errorf("Sub(%v, %v): %v %v", a, b, got, below)
		}
	})
	if got, below := Sub(api.Elem{}, api.Elem{1}); got != greatest || !below {
		t.Errorf("0 less 1: %v %v", got, below)
	}
}

func TestMul(t *testing.T) {
	pairs(t, func(a, b api.Elem) {
		product := new(big.Int).Mul(bigOf(a[:]...), bigOf(b[:]...))
		wantLo := elemOf(t, new(big.Int).Mod(product, power(256)))
		wantHi := elemOf(t, new(big.Int).Rsh(product, 256))
		if lo, hi := Mul(a, b); lo != wantLo || hi != wantHi {
			t.Errorf("Mul(%v, %v): %v %v", a, b, lo, hi)
		}
	})
	if lo, hi := Mul(api.Elem{0, 0, 1}, api.Elem{0, 0, 1}); lo != (api.Elem{}) || hi != (api.Elem{1}) {
		t.Errorf("2^128 squared: %v %v", lo, hi)
	}
}

func checkRem(t *testing.T, lo, hi, m api.Elem) {
	t.Helper()
	got, e := Rem(lo, hi, m)
	if m == (api.Elem{}) {
		if got != m || e != api.ErrZero {
			t.Errorf("Rem(%v, %v, 0): %v %d", lo, hi, got, e)
		}
		return
	}
	num := bigOf(append(lo[:], hi[:]...)...)
	if want := elemOf(t, num.Mod(num, bigOf(m[:]...))); got != want || e != api.OK {
		t.Errorf("Rem(%v, %v, %v): %v %d, not %v", lo, hi, m, got, e, want)
	}
}

func TestRem(t *testing.T) {
	all := edges(t)
	pairs(t, func(a, b api.Elem) {
		checkRem(t, a, b, api.Elem{})
		checkRem(t, a, b, api.Elem{10})
		checkRem(t, a, b, all[(a[0]^b[3])%uint64(len(all))])
		checkRem(t, a, greatest, b)
		checkRem(t, api.Elem{}, a, b)
		checkRem(t, a, api.Elem{}, b)
	})
	s := stream(2)
	for range 50000 {
		checkRem(t, s.elem(), s.elem(), s.elem())
	}
}

// A quotient's word is guessed by the highest words: numbers just below a multiple of the modulus are those at which a guess is too great.
func TestRemGuesses(t *testing.T) {
	s := stream(3)
	one := big.NewInt(1)
	for range 20000 {
		m, q := s.elem(), s.elem()
		if m == (api.Elem{}) {
			continue
		}
		num := new(big.Int).Mul(bigOf(m[:]...), bigOf(q[:]...))
		if num.Sign() > 0 {
			num.Sub(num, one)
		}
		lo := elemOf(t, new(big.Int).Mod(num, power(256)))
		checkRem(t, lo, elemOf(t, num.Rsh(num, 256)), m)
	}
	// Guesses that are too great by 2, and by the most that a word can be.
	checkRem(t, api.Elem{0, 0, 0, 3}, api.Elem{0, math.MaxUint64, math.MaxUint64, 1<<63 - 1}, api.Elem{0, math.MaxUint64, math.MaxUint64, 1 << 63})
	checkRem(t, api.Elem{}, api.Elem{0, 0, 0, 1 << 63}, api.Elem{1, 0, 0, 1 << 63})
	checkRem(t, api.Elem{}, api.Elem{math.MaxUint64, 0, 0, 1 << 63}, api.Elem{0, 1, 0, 1 << 63})
}

func TestRemExample(t *testing.T) {
	if r, e := Rem(api.Elem{7}, api.Elem{1}, api.Elem{10}); r != (api.Elem{3}) || e != api.OK {
		t.Errorf("2^256 + 7 by 10: %v %d", r, e)
	}
	if r, e := Rem(greatest, greatest, api.Elem{1}); r != (api.Elem{}) || e != api.OK {
		t.Errorf("by 1: %v %d", r, e)
	}
	if r, e := Rem(greatest, greatest, greatest); r != (api.Elem{}) || e != api.OK {
		t.Errorf("by the greatest: %v %d", r, e)
	}
}

func TestBit(t *testing.T) {
	for _, a := range edges(t) {
		n := bigOf(a[:]...)
		for i := range 256 {
			if got := Bit(a, i); got != (n.Bit(i) == 1) {
				t.Errorf("Bit(%v, %d): %v", a, i, got)
			}
		}
	}
	for _, i := range []int{-1, -64, -256, 256, 257, 320, 512, math.MaxInt, math.MinInt} {
		if Bit(greatest, i) {
			t.Errorf("there is a bit %d", i)
		}
	}
}
