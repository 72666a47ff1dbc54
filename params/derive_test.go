package params

import (
	"bytes"
	"math"
	"math/big"
	"slices"
	"testing"

	"sigil/api"
	"sigil/blake"
)

var greatest = api.Elem{math.MaxUint64, math.MaxUint64, math.MaxUint64, math.MaxUint64}

// wrongCurves: numbers that are no curve's.
var wrongCurves = []int{-1, 4, -2, 5, 6, 7, 8, 256, -4, math.MinInt, math.MaxInt, 1 << 32, -1 << 32}

// wrongIndexes: numbers that are no generator's.
var wrongIndexes = []int{-1, -2, -5, 1 << 31, 1<<31 + 1, 1<<32 - 1, 1 << 32, 1<<32 + 5, -1 << 31, -1 << 32, math.MinInt, math.MaxInt}

var infinity = api.Point{Inf: true}

// moduli: those of the fields, as the document says them.
var moduli = []string{
	"16513537",
	"16521217",
	"0x40000000000000000000000000000000224698fc094cf91b992d30ed00000001",
	"0x40000000000000000000000000000000224698fc0994a8dd8c46eb2100000001",
}

func number(text string) *big.Int {
	n, ok := new(big.Int).SetString(text, 0)
	if !ok {
		panic(text)
	}
	return n
}

func modulusOf(c int) *big.Int { return number(moduli[c]) }

// orderOf: the modulus of a curve's scalars.
func orderOf(c int) *big.Int { return number(moduli[[]int{1, 0, 3, 2}[c]]) }

// bigOf: the number as math/big has it, for answers worked out another way.
func bigOf(e api.Elem) *big.Int {
	n := new(big.Int)
	for i := len(e) - 1; i >= 0; i-- {
		n.Lsh(n, 64).Or(n, new(big.Int).SetUint64(e[i]))
	}
	return n
}

// elemOf: a number from 0 to 2^256 - 1.
func elemOf(n *big.Int) api.Elem {
	if n.Sign() < 0 || n.BitLen() > 256 {
		panic(n.String())
	}
	var e api.Elem
	for i := range e {
		e[i] = new(big.Int).And(new(big.Int).Rsh(n, uint(64*i)), bigOf(api.Elem{math.MaxUint64})).Uint64()
	}
	return e
}

func shifted(n *big.Int, by int64) api.Elem { return elemOf(new(big.Int).Add(n, big.NewInt(by))) }

func pointAt(x, y string) api.Point {
	return api.Point{X: elemOf(number(x)), Y: elemOf(number(y))}
}

// stream gives the same numbers at every run.
type stream uint64

func (s *stream) word() uint64 {
	*s += 0x9e3779b97f4a7c15
	z := uint64(*s)
	z = (z ^ z>>30) * 0xbf58476d1ce4e5b9
	z = (z ^ z>>27) * 0x94d049bb133111eb
	return z ^ z>>31
}

func (s *stream) elem() api.Elem { return api.Elem{s.word(), s.word(), s.word(), s.word()} }

func (s *stream) elems(n int) []api.Elem {
	list := make([]api.Elem, n)
	for i := range list {
		list[i] = s.elem()
	}
	return list
}

func (s *stream) bytes(n int) []byte {
	b := make([]byte, n)
	for i := range b {
		b[i] = byte(s.word())
	}
	return b
}

// derivedBy: a generator by blake.Sum and math/big, and which try gives it.
func derivedBy(c, index int, seed []byte) (api.Point, int) {
	m := modulusOf(c)
	for try := range 256 {
		said := slices.Concat(seed, []byte{byte(index), byte(index >> 8), byte(index >> 16), byte(index >> 24), byte(try)})
		digest, _ := blake.Sum("sigil-generators", 64, said)
		slices.Reverse(digest)
		x := new(big.Int).SetBytes(digest)
		x.Mod(x, m)
		square := new(big.Int).Exp(x, big.NewInt(3), m)
		square.Add(square, big.NewInt([]int64{23, 21, 5, 5}[c])).Mod(square, m)
		y := new(big.Int).ModSqrt(square, m)
		if x.Sign() == 0 || y == nil {
			continue
		}
		if y.Bit(0) == 1 {
			y.Sub(m, y)
		}
		return api.Point{X: elemOf(x), Y: elemOf(y)}, try
	}
	panic("none")
}

func derives(t *testing.T, c, index int, seed []byte, want api.Point) {
	t.Helper()
	if got, e := Derive(c, index, seed); got != want || e != api.OK {
		t.Errorf("Derive(%d, %d) of a seed of %d bytes: %v %d, not %v", c, index, len(seed), got, e, want)
	}
}

// P9.1

// Generators that were worked out by another program, of BLAKE2b and of the curves.
func TestDeriveOfAnotherProgram(t *testing.T) {
	long := string(bytes.Repeat([]byte("sigil"), 100))
	for _, g := range []struct {
		curve, index int
		seed, x, y   string
	}{
		{0, 0, "", "0xf9f91e", "0x45cd76"},
		{0, 0, "seed", "0x66438c", "0x4d3c64"},
		{0, 5, "seed", "0xc5f17", "0xd1d366"},
		{0, 0x01020304, "seed", "0x59a786", "0x999e74"},
		{0, 1<<31 - 1, long, "0xde5650", "0x89b8f8"},
		{1, 0, "", "0x930799", "0x99b0c"},
		{1, 0, "seed", "0x6024db", "0xbe3294"},
		{1, 5, "seed", "0xd95140", "0x99074"},
		{1, 0x01020304, "seed", "0x5e8ce0", "0x29d120"},
		{1, 1<<31 - 1, long, "0x70a1cb", "0x76cebe"},
		{2, 0, "", "0x31bbb7f2208e90c91259e3e797b9a472f6ac546898eaeca26cda7764e0259c22", "0x3ee6e5729ba44a16d97cd8d5d50261c9ac77241b3751e3a16c26552ff3aadd24"},
		{2, 0, "seed", "0x163b2b01dc6f0013978964cfbecd31299f4cb657ef1df5d2d1d5e3b02eef05f0", "0x7443032e1eb344673063e0288ec807c05d05dab563d50e61c81f37bf7281f3a"},
		{2, 5, "seed", "0xb28fbd28662423322d82f67c5224f334cb141ef88e41b0a6a79106728b59166", "0xb8f98aebb556097ecd9102708822ecfcba5a2400f992c3fcbf74748f7942878"},
		{2, 0x01020304, "seed", "0x3623f49f71c48e0a3fd5a51da603b7d43fedaa58b6ffd9c20d7eb456caa552ed", "0x288eb10c83239ad25e10358c37fdf7480f4f71f1692be81d10ce8b20e4a48cbe"},
		{2, 1<<31 - 1, long, "0x18fb45b590d9fa6ad0f3d6fcfda086cb6e4121c572892a34daf0354bc61211cf", "0x1fc6850d12d06d5773d6afe968e62c562818570b4599ddc0c4fd23d5b4e1d1e8"},
		{3, 0, "", "0x10a6fce4bcba71eac048137357080ffe09855fa7bd9f18ad8785cf4011f68a39", "0x16d4b21ffd6ab741af7eef7e52308f69e6157923ba1c426a4b4a5c4b6ead3f3e"},
		{3, 0, "seed", "0x85e207e4b94a8292bc514c17c7256f883a6f092554f088281b13aa7ce6d8498", "0x3cc46edde8a38942aa20ada8bdb7d4eb31df4eaf33a7b1ac15280a8d1949058c"},
		{3, 5, "seed", "0x3752c99e3d1e6c7eddcf186612135c0e87434826ea95487b9e5b4033d544e588", "0x23061c93b3a906d9e6715c381ec16dc9ea693c1ee5aceb43242da47063933d40"},
		{3, 0x01020304, "seed", "0xabb3465b334b367d0d408841ca66af5c3898beeba5768d45eb3f5d3ec645d81", "0x13a91917bc16517696fc3f3ff4cf40fcd849ea27b0930f2e5afd77ab0b434d3c"},
		{3, 1<<31 - 1, long, "0xebb7fec4299b66c8c77d2c31a1bec58229a2fbea815f1de48d6c85e4a123f56", "0x1737828768cf4ff3698d86225cdf268ba99a52a0cf9244367493f90348ffcb9c"},
	} {
		derives(t, g.curve, g.index, []byte(g.seed), pointAt(g.x, g.y))
	}
}

// Generators of many tries, by another program.
func TestDeriveManyTries(t *testing.T) {
	for _, g := range []struct {
		curve, index, try int
		x, y              string
	}{
		{0, 198696, 18, "0x54f701", "0x79dd62"},
		{1, 183409, 16, "0xe88c59", "0xb3805a"},
		{2, 14091, 14, "0x329cb0f1d3c1343339c93848c6c721de93cbdff13ba3b7f74df06c034b647472", "0x13f8d13cba4822b851759f655991688dac7ae1b64975788745c2e5e2827dd9e6"},
		{3, 12896, 13, "0x2bebf1ab89ea2f847b1042c4c64631d2f0cc134e48bc1968ce851991f3aee78d", "0x19aa2d8198591e9cd46a79af05916bfdc5982d3b0ad8e0a0f0df200c6a43ff1c"},
	} {
		derives(t, g.curve, g.index, nil, pointAt(g.x, g.y))
		if _, try := derivedBy(g.curve, g.index, nil); try != g.try {
			t.Errorf("Derive(%d, %d): by the try %d", g.curve, g.index, try)
		}
	}
}

// At these indexes the first try's X is 0, which isn't taken for infinity's.
func TestDeriveLeavesNoughtOut(t *testing.T) {
	for _, g := range []struct {
		curve, index int
		x, y         string
	}{
		{0, 2070132, "5299074", "845804"},
		{0, 6337841, "14041458", "10077220"},
		{0, 44060958, "16403851", "5386850"},
		{1, 47017527, "11735976", "7507246"},
		{1, 58627586, "6375766", "3927506"},
	} {
		m := message(g.index, nil)
		if p, ok := pointOf(g.curve, m); p != (api.Point{}) || ok {
			t.Errorf("on %d at %d: %v", g.curve, g.index, p)
		}
		digest, _ := blake.Sum("sigil-generators", 64, m)
		slices.Reverse(digest)
		x := new(big.Int).SetBytes(digest)
		if x.Mod(x, modulusOf(g.curve)).Sign() != 0 {
			t.Errorf("on %d at %d: the first X is %v", g.curve, g.index, x)
		}
		derives(t, g.curve, g.index, nil, pointAt(g.x, g.y))
	}
}

func TestDerive(t *testing.T) {
	indexes := []int{0, 1, 2, 3, 31, 32, 33, 255, 256, 257, 65535, 65536, 1 << 24, 1<<24 - 1, 1 << 30, 1<<31 - 2, 1<<31 - 1}
	for c := range 4 {
		s := stream(100 + c)
		// Lengths around those where what is hashed has a block more.
		for _, n := range []int{0, 1, 4, 16, 32, 122, 123, 124, 127, 128, 129, 251, 252, 1000} {
			seed := s.bytes(n)
			for _, index := range append(slices.Clone(indexes), int(s.word()>>33)) {
				want, _ := derivedBy(c, index, seed)
				derives(t, c, index, seed, want)
			}
		}
	}
}

func TestDeriveSeeds(t *testing.T) {
	for c := range 4 {
		seeds := [][]byte{nil, {0}, {0, 0}, {1}, {255}, []byte("a"), []byte("A"), []byte("\xff\xfe"), make([]byte, 64), bytes.Repeat([]byte{7}, 1<<20)}
		met := map[api.Point]int{}
		for i, seed := range seeds {
			p, _ := derivedBy(c, 9, seed)
			derives(t, c, 9, seed, p)
			if _, ok := met[p]; ok {
				t.Errorf("on %d: the seeds %d and %d make no difference", c, i, met[p])
			}
			met[p] = i
		}
		none, _ := derivedBy(c, 9, nil)
		derives(t, c, 9, []byte{}, none)
	}
}

func TestDeriveErrors(t *testing.T) {
	seeds := [][]byte{nil, {}, []byte("seed")}
	refused := func(c, index int, seed []byte, want api.Errno) {
		t.Helper()
		if p, e := Derive(c, index, seed); p != (api.Point{}) || e != want {
			t.Errorf("Derive(%d, %d, %v): %v %d, not the error %d", c, index, seed, p, e, want)
		}
	}
	for _, seed := range seeds {
		for _, c := range wrongCurves {
			// A wrong curve goes ahead of a wrong index.
			for _, index := range append([]int{0, 1, 1<<31 - 1}, wrongIndexes...) {
				refused(c, index, seed, api.ErrCurve)
			}
		}
		for c := range 4 {
			for _, index := range wrongIndexes {
				refused(c, index, seed, api.ErrSize)
			}
		}
	}
}

// That none of 256 tries gives a point isn't met with any seed that is known.
func TestTries(t *testing.T) {
	want := api.Point{X: api.Elem{1}, Y: api.Elem{2}}
	for last := range 257 {
		var asked []byte
		p, e := firstOf(func(try byte) (api.Point, bool) {
			asked = append(asked, try)
			if int(try) == last {
				return want, true
			}
			return api.Point{}, false
		})
		if last == 256 {
			if p != (api.Point{}) || e != api.ErrParams || len(asked) != 256 {
				t.Errorf("no try gives a point: %v %d, behind %d tries", p, e, len(asked))
			}
			continue
		}
		if p != want || e != api.OK || len(asked) != last+1 {
			t.Errorf("the try %d gives a point: %v %d, behind %d tries", last, p, e, len(asked))
		}
		for i, try := range asked {
			if int(try) != i {
				t.Errorf("try %d is at the place %d", try, i)
			}
		}
	}
}
