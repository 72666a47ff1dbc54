package keys

import (
	"bytes"
	"math"
	"math/big"
	"slices"
	"testing"

	"sigil/api"
	"sigil/curve"
	"sigil/field"
)

// encoded: Encode answers what it does by the document's words, and Decode of that the plain key.
func encoded(t *testing.T, v api.Vkey) {
	t.Helper()
	got, e := Encode(v)
	want, wrong := encodeBy(v)
	if e != wrong || !bytes.Equal(got, want) {
		t.Errorf("Encode(%s): %x, %d, not %x, %d", show(v), got, e, want, wrong)
	}
	if wrong == api.OK {
		decoded(t, want, plainBy(v), api.OK)
	}
}

// decoded: Decode answers that; with an error nothing else.
func decoded(t *testing.T, b []byte, want api.Vkey, wrong api.Errno) {
	t.Helper()
	if got, e := Decode(b); e != wrong || !same(got, want) {
		t.Errorf("Decode(%x): %v, %d, not %v, %d", b, got, e, want, wrong)
	}
}

// undecoded: there is no key with those bytes.
func undecoded(t *testing.T, b []byte) {
	t.Helper()
	decoded(t, b, api.Vkey{}, api.ErrVkey)
}

// byHand: a little key over curve 1, and its bytes written out.
func byHand() (api.Vkey, []byte) {
	p := setup(1, 3).G[2]
	v := api.Vkey{
		Curve: 1, K: 4,
		Circuit: api.Circuit{
			Fixed: 1, Advice: 2, Instance: 3,
			Nodes: []api.Node{
				{Op: api.OpAdvice, A: 1, B: 0, V: api.Elem{99}},
				{Op: api.OpInstance, A: 2, B: -2},
				{Op: api.OpScale, A: 1, B: 12, V: api.Elem{16513537 + 258}},
			},
			Gates:   []int{2, 1},
			Lookups: []api.Lookup{{Inputs: []int{0, 0}, Tables: []int{0, 0}}},
			Equal:   []api.Column{{Kind: api.OpFixed, Col: 0}, {Kind: api.OpInstance, Col: 2}},
		},
		Fixed: []api.Point{p},
		Sigma: []api.Point{curve.Infinity(), curve.Neg(1, p)},
	}
	zeros := make([]byte, 32)
	b := slices.Concat(
		[]byte{1, 4, 1, 2, 3},
		[]byte{3},
		[]byte{3, 1, 0}, zeros,
		[]byte{4, 2, 254}, zeros,
		[]byte{8, 1, 0}, []byte{2, 1}, zeros[2:],
		[]byte{2, 2, 1},
		[]byte{1, 2, 0, 0, 0, 0},
		[]byte{2, 2, 0, 4, 2},
	)
	x := field.Encode(1, p.X)
	other := slices.Clone(x)
	other[31] |= 128
	if p.Y[0]%2 == 1 {
		x, other = other, x
	}
	return v, slices.Concat(b, x, zeros, other)
}

// P15.5

func TestEncodeByHand(t *testing.T) {
	v, want := byHand()
	got, e := Encode(v)
	if e != api.OK || !bytes.Equal(got, want) {
		t.Errorf("%x, %d, not %x", got, e, want)
	}
	v.Circuit.Nodes[0].V = api.Elem{}
	v.Circuit.Nodes[2] = api.Node{Op: api.OpScale, A: 1, V: api.Elem{258}}
	decoded(t, want, v, api.OK)
}

func TestEncode(t *testing.T) {
	eachKey(func(v api.Vkey) { encoded(t, v) })
	v := leastKey(2, 5)
	if b, e := Encode(v); e != api.OK || !bytes.Equal(b, []byte{2, 5, 0, 1, 0, 0, 0, 0, 0}) {
		t.Errorf("%v, %d", b, e)
	}
}

// What an Op doesn't name isn't told, whatever it is; what it names is.
func TestEncodeOfOps(t *testing.T) {
	numbers := append([]int{1, 3, 255, 256, math.MinInt + 7}, far...)
	for op := 1; op <= 8; op++ {
		v := leastKey(0, 3)
		v.Circuit.Nodes = []api.Node{{Op: api.OpAdvice}, {Op: op}}
		v.Circuit.Fixed, v.Circuit.Instance, v.Fixed = 1, 1, []api.Point{curve.Infinity()}
		want, e := Encode(v)
		if e != api.OK {
			t.Fatal(op, e)
		}
		n := &v.Circuit.Nodes[1]
		for name, one := range map[rune]*int{'A': &n.A, 'B': &n.B} {
			if !slices.Contains([]rune(names[op]), name) {
				for _, *one = range numbers {
					if got, e := Encode(v); e != api.OK || !bytes.Equal(got, want) {
						t.Errorf("the Op %d with %c %d: %x, %d, not %x", op, name, *one, got, e, want)
					}
				}
				*one = 0
			}
		}
		for _, n.V = range []api.Elem{{1}, greatest, {0, 1}, beside(1, 0, 1), beside(1, 1, 1)} {
			rest := new(big.Int).Mod(bigOf(n.V), modulusOf(1))
			told := slices.Contains([]rune(names[op]), 'V') && rest.Sign() != 0
			if got, e := Encode(v); e != api.OK || bytes.Equal(got, want) == told {
				t.Errorf("the Op %d with V %v: %x, %d, and %x", op, n.V, got, e, want)
			}
		}
	}
}

// Rows back are 256 less.
func TestEncodeOfRows(t *testing.T) {
	for rot, want := range map[int]byte{-3: 253, -2: 254, -1: 255, 0: 0, 1: 1, 2: 2, 3: 3} {
		v := leastKey(3, 3)
		v.Circuit.Nodes = []api.Node{{Op: api.OpAdvice, B: rot}}
		b, e := Encode(v)
		if e != api.OK || b[8] != want {
			t.Errorf("%d rows on: %v, %d", rot, b, e)
		}
		decoded(t, b, v, api.OK)
		for n := range 256 {
			b[8] = byte(n)
			if n < 4 || n > 252 {
				v.Circuit.Nodes[0].B = int(int8(n))
				decoded(t, b, v, api.OK)
			} else {
				undecoded(t, b)
			}
		}
	}
}

// V is an element of the scalars, below their modulus.
func TestDecodeOfV(t *testing.T) {
	for c := range 4 {
		v := leastKey(c, 3)
		for _, op := range []int{api.OpConst, api.OpScale} {
			v.Circuit.Nodes = []api.Node{{Op: api.OpAdvice}, {Op: op}}
			for _, number := range []api.Elem{{}, {1}, {2}, beside(c^1, -1, 1)} {
				v.Circuit.Nodes[1].V = number
				decoded(t, rawBy(v), v, api.OK)
			}
			for _, number := range []api.Elem{beside(c^1, 0, 1), beside(c^1, 1, 1), beside(c^1, 0, 2), {0, 0, 0, 1 << 63}, greatest} {
				v.Circuit.Nodes[1].V = number
				undecoded(t, rawBy(v))
			}
		}
	}
}

// What an Op doesn't name must be 0.
func TestDecodeOfOps(t *testing.T) {
	for op := 1; op <= 8; op++ {
		for c := range 2 {
			v := leastKey(c, 3)
			v.Circuit.Nodes = []api.Node{{Op: api.OpAdvice}, {Op: api.OpAdvice}, {Op: op}}
			v.Circuit.Fixed, v.Circuit.Instance, v.Circuit.Advice = 2, 2, 2
			v.Fixed = make([]api.Point, 2)
			v.Fixed[0], v.Fixed[1] = curve.Infinity(), curve.Infinity()
			decoded(t, rawBy(v), v, api.OK)
			n := &v.Circuit.Nodes[2]
			n.A = 1
			want, wrong := decodeBy(rawBy(v))
			if (wrong == api.OK) != (op != api.OpConst) {
				t.Fatal(op, wrong)
			}
			decoded(t, rawBy(v), want, wrong)
			n.A, n.B = 0, 1
			want, wrong = decodeBy(rawBy(v))
			if (wrong == api.OK) != slices.Contains([]int{2, 3, 4, 6, 7}, op) {
				t.Fatal(op, wrong)
			}
			decoded(t, rawBy(v), want, wrong)
			n.B, n.V = 0, api.Elem{0, 0, 0, 1}
			undecoded(t, rawBy(v))
			n.V = api.Elem{1 << 16}
			want, wrong = decodeBy(rawBy(v))
			if (wrong == api.OK) != (op == 1 || op == 8) {
				t.Fatal(op, wrong)
			}
			decoded(t, rawBy(v), want, wrong)
		}
	}
	for _, op := range []int{0, 9, 10, 128, 255} {
		v := leastKey(0, 3)
		v.Circuit.Nodes = []api.Node{{Op: op}}
		undecoded(t, rawBy(v))
	}
}

// Neither fewer bytes are a key's, nor more.
func TestDecodeOfOtherLengths(t *testing.T) {
	undecoded(t, nil)
	undecoded(t, []byte{})
	_, hand := byHand()
	for _, b := range [][]byte{hand, rawBy(leastKey(0, 3)), rawBy(plainBy(fullKey(0, 3))), rawBy(plainBy(greatestKey(1, 3)))} {
		for i := range b {
			undecoded(t, b[:i:i])
			// The bytes that are missing lie behind the length.
			undecoded(t, b[:i])
		}
		for n := range 256 {
			undecoded(t, append(slices.Clone(b), byte(n)))
		}
		undecoded(t, slices.Concat(b, b))
		undecoded(t, slices.Concat(b, make([]byte, 32)))
	}
}

// Each byte is another one: there is a key, or none, as the document's words say.
func TestDecodeOfOtherBytes(t *testing.T) {
	_, hand := byHand()
	found := map[api.Errno]int{}
	for i := range hand {
		for n := range 256 {
			b := slices.Clone(hand)
			b[i] = byte(n)
			want, wrong := decodeBy(b)
			decoded(t, b, want, wrong)
			found[wrong]++
		}
	}
	if found[0] < 1000 || found[150] < 20000 {
		t.Errorf("too few of a kind: %v", found)
	}
}

// Points are encoded ones of the curve.
func TestDecodeOfPoints(t *testing.T) {
	for c := range 4 {
		v := fullKey(c, 3)
		b := rawBy(plainBy(v))
		for i := range 6 {
			from := len(b) - 32*(i+1)
			for _, bad := range [][]byte{
				append(make([]byte, 31), 128),
				slices.Repeat([]byte{255}, 32),
				append([]byte{1}, make([]byte, 31)...),
				append([]byte{2}, make([]byte, 31)...),
				append([]byte{3}, make([]byte, 31)...),
				curve.Encode(c^2, setup(c^2, 3).G[1]),
			} {
				changed := slices.Concat(b[:from], bad, b[from+32:])
				want, wrong := decodeBy(changed)
				decoded(t, changed, want, wrong)
				if _, e := curve.Decode(c, bad); (e == api.OK) != (wrong == api.OK) {
					t.Errorf("the point %x: %d", bad, wrong)
				}
			}
			changed := slices.Concat(b[:from], make([]byte, 32), b[from+32:])
			want, wrong := decodeBy(changed)
			if wrong != api.OK {
				t.Errorf("infinity: %d", wrong)
			}
			decoded(t, changed, want, wrong)
		}
	}
}

// wrongNumbers: keys that aren't right, but whose numbers have all room in a byte.
func wrongNumbers() []api.Vkey {
	var list []api.Vkey
	of := func(change func(v *api.Vkey)) {
		for c := range 4 {
			v := plainBy(fullKey(c, 3))
			change(&v)
			list = append(list, v)
		}
	}
	for _, k := range []int{0, 1, 2, 6, 7, 128, 255} {
		of(func(v *api.Vkey) { v.K = k })
	}
	for _, n := range []int{0, 9, 10, 255} {
		of(func(v *api.Vkey) { v.Circuit.Advice = n })
	}
	for _, n := range []int{9, 10, 255} {
		of(func(v *api.Vkey) { v.Circuit.Instance = n })
		of(func(v *api.Vkey) { v.Circuit.Fixed, v.Fixed = n, slices.Repeat(v.Fixed[:1], n) })
	}
	of(func(v *api.Vkey) { v.Circuit.Nodes = slices.Repeat(v.Circuit.Nodes[:1], 65) })
	of(func(v *api.Vkey) { v.Circuit.Nodes = slices.Repeat(v.Circuit.Nodes[:1], 255) })
	of(func(v *api.Vkey) { v.Circuit.Gates = make([]int, 17) })
	of(func(v *api.Vkey) { v.Circuit.Gates = make([]int, 255) })
	of(func(v *api.Vkey) { v.Circuit.Gates[1] = 10 })
	of(func(v *api.Vkey) { v.Circuit.Lookups = slices.Repeat(v.Circuit.Lookups[:1], 5) })
	of(func(v *api.Vkey) { v.Circuit.Lookups = make([]api.Lookup, 1) })
	of(func(v *api.Vkey) { v.Circuit.Lookups = make([]api.Lookup, 255) })
	of(func(v *api.Vkey) {
		v.Circuit.Lookups[1] = api.Lookup{Inputs: slices.Repeat([]int{8}, 5), Tables: slices.Repeat([]int{8}, 5)}
	})
	of(func(v *api.Vkey) { v.Circuit.Lookups[1].Tables[2] = 1 })
	of(func(v *api.Vkey) { v.Circuit.Equal[2].Kind = 1 })
	of(func(v *api.Vkey) { v.Circuit.Equal[2].Col = 2 })
	of(func(v *api.Vkey) { v.Circuit.Equal[2] = v.Circuit.Equal[3] })
	of(func(v *api.Vkey) { v.Circuit.Nodes[5].B = 5 })
	of(func(v *api.Vkey) { v.Circuit.Nodes[5].A = 200 })
	of(func(v *api.Vkey) { v.Circuit.Nodes[5].B = -1 })
	return list
}

func TestDecodeOfWrongKeys(t *testing.T) {
	for _, v := range wrongNumbers() {
		if checkBy(v) == api.OK {
			t.Errorf("%s is right", show(v))
		}
		undecoded(t, rawBy(v))
	}
	for c := 4; c < 256; c++ {
		for _, v := range []api.Vkey{leastKey(0, 3), plainBy(fullKey(0, 3))} {
			b := rawBy(v)
			b[0] = byte(c)
			undecoded(t, b)
		}
	}
}

// Any keys, right ones and wrong ones, by the document's words.
func TestCodecOfAny(t *testing.T) {
	keys(50, 400, func(v api.Vkey) { encoded(t, v) })
}

// Any bytes: a key's that are spoilt, and others.
func TestDecodeOfAny(t *testing.T) {
	s := stream(51)
	found := map[api.Errno]int{}
	look := func(b []byte) {
		want, wrong := decodeBy(b)
		decoded(t, b, want, wrong)
		found[wrong]++
	}
	for i := range 1500 {
		b := rawBy(plainBy(s.key(i % 4)))
		b = s.spoilBytes(b)
		look(b)
		if len(b) > 0 {
			look(s.spoilBytes(b))
		}
		other := make([]byte, s.below(200))
		for i := range other {
			other[i] = byte(s.below(1 + s.below(256)))
		}
		look(other)
	}
	if found[0] < 100 || found[150] < 1000 {
		t.Errorf("too few of a kind: %v", found)
	}
}
