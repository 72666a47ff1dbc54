package curve

import (
	"bytes"
	"math/big"
	"slices"
	"testing"

	"sigil/api"
)

// leastFirst: a number's 32 bytes by math/big, the one of the least weight first.
func leastFirst(n *big.Int) []byte {
	b := n.FillBytes(make([]byte, 32))
	slices.Reverse(b)
	return b
}

// written: a point's bytes by math/big.
func written(p api.Point) []byte {
	b := leastFirst(bigOf(p.X))
	if bigOf(p.Y).Bit(0) == 1 {
		b[31] |= 0x80
	}
	return b
}

func refused(t *testing.T, c int, b []byte) {
	t.Helper()
	if p, e := Decode(c, b); p != (api.Point{}) || e != api.ErrPoint {
		t.Errorf("Decode(%d, %v): %v %d", c, b, p, e)
	}
}

// P4.3

func TestEncode(t *testing.T) {
	for c := range 4 {
		s := stream(200 + c)
		var odd, even int
		for range 50 {
			p := s.point(c)
			for _, q := range []api.Point{p, other(c, p)} {
				if q.Y[0]%2 == 1 {
					odd++
				} else {
					even++
				}
				b := Encode(c, q)
				if !bytes.Equal(b, written(q)) {
					t.Errorf("Encode(%d, %v): %v, not %v", c, q, b, written(q))
				}
				if got, e := Decode(c, b); got != q || e != api.OK {
					t.Errorf("Decode(%d, %v): %v %d, not %v", c, b, got, e, q)
				}
			}
		}
		if odd != 50 || even != 50 {
			t.Errorf("on %d: %d odd Y, %d even ones", c, odd, even)
		}
	}
}

func TestInfinityBytes(t *testing.T) {
	for c := range 4 {
		if b := Encode(c, Infinity()); !bytes.Equal(b, make([]byte, 32)) {
			t.Errorf("Encode(%d) of infinity: %v", c, b)
		}
		if p, e := Decode(c, make([]byte, 32)); p != infinity || e != api.OK {
			t.Errorf("Decode(%d) of 32 bytes 0: %v %d", c, p, e)
		}
		// Infinity is 0 alone: not with the top bit set, for no point has X 0.
		b := make([]byte, 32)
		b[31] = 0x80
		refused(t, c, b)
	}
}

func TestEncodeOffTheCurve(t *testing.T) {
	for c := range 4 {
		for _, p := range offCurve(c) {
			if b := Encode(c, p); len(b) != 0 {
				t.Errorf("Encode(%d, %v): %v", c, p, b)
			}
		}
	}
	for _, c := range wrongCurves {
		for d := range 4 {
			for _, p := range append(points(d, 210+d), offCurve(d)...) {
				if b := Encode(c, p); len(b) != 0 {
					t.Errorf("Encode(%d, %v): %v", c, p, b)
				}
			}
		}
	}
}

func TestDecodeWrongCurves(t *testing.T) {
	good := written(points(0, 220)[1])
	for _, c := range wrongCurves {
		for _, b := range [][]byte{nil, {}, {1}, make([]byte, 31), make([]byte, 32), good, bytes.Repeat([]byte{255}, 32), make([]byte, 33)} {
			if p, e := Decode(c, b); p != (api.Point{}) || e != api.ErrCurve {
				t.Errorf("Decode(%d, %v): %v %d", c, b, p, e)
			}
		}
	}
}

func TestDecodeLengths(t *testing.T) {
	for c := range 4 {
		good := written(points(c, 230+c)[1])
		refused(t, c, nil)
		for _, n := range []int{0, 1, 2, 8, 16, 30, 31, 33, 34, 63, 64, 65, 1000} {
			for _, fill := range []byte{0, 1, 128, 255} {
				refused(t, c, bytes.Repeat([]byte{fill}, n))
			}
			if n < 32 {
				refused(t, c, good[:n])
				continue
			}
			refused(t, c, append(bytes.Clone(good), make([]byte, n-32)...))
			refused(t, c, append(make([]byte, n-32), good...))
		}
	}
}

// Of each X there are both points, or none, as math/big tells.
func TestDecodeEachX(t *testing.T) {
	for c := range 4 {
		m := modulusOf(c)
		s := stream(240 + c)
		var list []*big.Int
		for i := range int64(300) {
			list = append(list, big.NewInt(i+1), bigOf(shifted(m, -i-1)), s.below(m))
		}
		none := 0
		for _, x := range list {
			y := root(c, x)
			even, odd := leastFirst(x), leastFirst(x)
			odd[31] |= 0x80
			if y == nil {
				none++
				refused(t, c, even)
				refused(t, c, odd)
				continue
			}
			if y.Bit(0) == 1 {
				y.Sub(m, y)
			}
			want := api.Point{X: elemOf(x), Y: elemOf(y)}
			if p, e := Decode(c, even); p != want || e != api.OK {
				t.Errorf("Decode(%d, %v): %v %d, not %v", c, even, p, e, want)
			}
			if p, e := Decode(c, odd); p != other(c, want) || e != api.OK {
				t.Errorf("Decode(%d, %v): %v %d, not %v", c, odd, p, e, other(c, want))
			}
		}
		if none < 300 || none > 600 {
			t.Errorf("on %d: %d of 900 X's have no point", c, none)
		}
	}
}

// An X that isn't below the modulus is refused, though its remainder may be a point's.
func TestDecodeGreatX(t *testing.T) {
	top := new(big.Int).Lsh(big.NewInt(1), 255)
	for c := range 4 {
		m := modulusOf(c)
		list := []*big.Int{m, bigOf(shifted(m, 1)), bigOf(shifted(top, -1))}
		for _, p := range points(c, 250+c)[1:] {
			n := new(big.Int).Add(bigOf(p.X), m)
			for range 3 {
				list = append(list, n)
				n = new(big.Int).Add(n, m)
			}
		}
		for i := range int64(100) {
			list = append(list, bigOf(shifted(m, i)))
		}
		for _, n := range list {
			if n.Cmp(top) >= 0 {
				continue
			}
			b := leastFirst(n)
			refused(t, c, b)
			b[31] |= 0x80
			refused(t, c, b)
		}
		refused(t, c, bytes.Repeat([]byte{0x7f}, 32))
		refused(t, c, bytes.Repeat([]byte{0xff}, 32))
	}
}

// What is answered is the point of which Encode answers the bytes: each bit counts.
func TestDecodeEachBit(t *testing.T) {
	for c := range 4 {
		p := points(c, 260+c)[1]
		for i := range 256 {
			b := written(p)
			b[i/8] ^= 1 << (i % 8)
			got, e := Decode(c, b)
			if e == api.OK && (got == p || !isOn(c, got) || !bytes.Equal(written(got), b)) {
				t.Errorf("Decode(%d) with the bit %d changed: %v", c, i, got)
			}
			if e != api.OK && (got != (api.Point{}) || e != api.ErrPoint) {
				t.Errorf("Decode(%d) with the bit %d changed: %v %d", c, i, got, e)
			}
		}
	}
}

// P4.4

func TestBytesAreLeftAlone(t *testing.T) {
	for c := range 4 {
		for _, p := range points(c, 270+c) {
			behind := append(written(p), bytes.Repeat([]byte{1, 2, 128, 255}, 20)...)
			before := bytes.Clone(behind)
			for _, n := range []int{0, 31, 32, 33, 64, len(behind)} {
				got, e := Decode(c, behind[:n])
				if n == 32 && (got != p || e != api.OK) || n != 32 && e != api.ErrPoint {
					t.Errorf("Decode(%d) of %d bytes: %v %d", c, n, got, e)
				}
				if !bytes.Equal(behind, before) {
					t.Errorf("Decode(%d) of %d bytes has changed them", c, n)
				}
			}
			first, second := Encode(c, p), Encode(c, p)
			first = first[:cap(first)]
			for i := range first {
				first[i] = 77
			}
			if !bytes.Equal(second, written(p)) || !bytes.Equal(Encode(c, p), written(p)) {
				t.Errorf("two answers of Encode share memory")
			}
		}
	}
}
