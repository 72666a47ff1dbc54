package tape

import (
	"bytes"
	"math"
	"math/big"
	"slices"
	"testing"

	"sigil/api"
	"sigil/blake"
	"sigil/curve"
)

var greatest = api.Elem{math.MaxUint64, math.MaxUint64, math.MaxUint64, math.MaxUint64}

// wrongNumbers: numbers that are neither a curve's nor a mode's.
var wrongNumbers = []int{-1, 4, -2, 5, 6, 7, 8, 256, -4, math.MinInt, math.MaxInt, 1 << 32, -1 << 32}

var infinity = api.Point{Inf: true}

// moduli: those of the fields, as the document says them.
var moduli = []string{
	"16513537",
	"16521217",
	"0x40000000000000000000000000000000224698fc094cf91b992d30ed00000001",
	"0x40000000000000000000000000000000224698fc0994a8dd8c46eb2100000001",
}

func number(text string) *big.Int {
	n, ok := new(big.Int).SetString(text, 0)
	if !ok {
		panic(text)
	}
	return n
}

// orderOf: the modulus of a curve's scalars.
func orderOf(c int) *big.Int { return number(moduli[[]int{1, 0, 3, 2}[c]]) }

// bigOf: the number as math/big has it, for answers worked out another way.
func bigOf(e api.Elem) *big.Int {
	n := new(big.Int)
	for i := len(e) - 1; i >= 0; i-- {
		n.Lsh(n, 64).Or(n, new(big.Int).SetUint64(e[i]))
	}
	return n
}

// elemOf: a number from 0 to 2^256 - 1.
func elemOf(n *big.Int) api.Elem {
	if n.Sign() < 0 || n.BitLen() > 256 {
		panic(n.String())
	}
	var e api.Elem
	for i := range e {
		e[i] = new(big.Int).And(new(big.Int).Rsh(n, uint(64*i)), bigOf(api.Elem{math.MaxUint64})).Uint64()
	}
	return e
}

func shifted(n *big.Int, by int64) api.Elem { return elemOf(new(big.Int).Add(n, big.NewInt(by))) }

// rest: v modulo the scalars' modulus, by math/big.
func rest(c int, v api.Elem) api.Elem { return elemOf(new(big.Int).Mod(bigOf(v), orderOf(c))) }

// leastFirst: a number's 32 bytes by math/big, the one of the least weight first.
func leastFirst(n *big.Int) []byte {
	b := n.FillBytes(make([]byte, 32))
	slices.Reverse(b)
	return b
}

// scalarBytes, pointBytes: what is written, by math/big.
func scalarBytes(c int, v api.Elem) []byte { return leastFirst(bigOf(rest(c, v))) }

func pointBytes(p api.Point) []byte {
	b := leastFirst(bigOf(p.X))
	if bigOf(p.Y).Bit(0) == 1 {
		b[31] |= 0x80
	}
	return b
}

// stream gives the same numbers at every run.
type stream uint64

func (s *stream) word() uint64 {
	*s += 0x9e3779b97f4a7c15
	z := uint64(*s)
	z = (z ^ z>>30) * 0xbf58476d1ce4e5b9
	z = (z ^ z>>27) * 0x94d049bb133111eb
	return z ^ z>>31
}

func (s *stream) elem() api.Elem { return api.Elem{s.word(), s.word(), s.word(), s.word()} }

func (s *stream) elems(n int) []api.Elem {
	list := make([]api.Elem, n)
	for i := range list {
		list[i] = s.elem()
	}
	return list
}

// point: a drawn point of the plane.
func (s *stream) point(c int) api.Point {
	for {
		b := make([]byte, 32)
		for i := range 3 {
			b[i] = byte(s.word())
		}
		b[31] = byte(s.word()) & 0x80
		if p, e := curve.Decode(c, b); e == api.OK && !p.Inf {
			return p
		}
	}
}

// scalarEdges: numbers around those where a scalar's remainder is another one.
func scalarEdges(c int) []api.Elem {
	m := orderOf(c)
	return []api.Elem{{}, {1}, {2}, shifted(m, -1), elemOf(m), shifted(m, 1), {0, 1}, {0, 0, 0, 1 << 63}, greatest}
}

// offTheCurve: what isn't on the curve.
func offTheCurve(c int) []api.Point {
	s := stream(300 + c)
	p, q := s.point(c), s.point(c^1)
	m := number(moduli[c])
	return []api.Point{
		{}, {X: p.X}, {Y: p.Y}, {X: p.X, Y: p.X}, {X: p.Y, Y: p.X}, q,
		{X: p.X, Y: p.Y, Inf: true}, {X: api.Elem{1}, Inf: true}, {Y: api.Elem{1}, Inf: true},
		{X: elemOf(new(big.Int).Add(bigOf(p.X), m)), Y: p.Y}, {X: p.X, Y: elemOf(new(big.Int).Add(bigOf(p.Y), m))},
		{X: elemOf(m), Inf: true}, {X: greatest, Y: greatest}, {X: greatest, Y: greatest, Inf: true},
	}
}

// record is what a hash has taken, held aside by the tests.
type record struct {
	curve int
	taken []byte
}

func (r *record) scalar(v api.Elem) {
	r.taken = append(append(r.taken, 2), scalarBytes(r.curve, v)...)
}

func (r *record) point(p api.Point) { r.taken = append(append(r.taken, 1), pointBytes(p)...) }

// challenge: the next one out of the hash of all that was taken, by blake.Sum and math/big.
func (r *record) challenge() api.Elem {
	r.taken = append(r.taken, 0)
	b, _ := blake.Sum("sigil-transcript", 64, r.taken)
	slices.Reverse(b)
	n := new(big.Int).SetBytes(b)
	return elemOf(n.Mod(n, orderOf(r.curve)))
}

// challenger is a writer or a reader.
type challenger interface {
	Curve() int
	Hear(v api.Elem)
	Challenge() (api.Elem, api.Errno)
}

func challenged(t *testing.T, who challenger, want api.Elem) {
	t.Helper()
	if got, e := who.Challenge(); got != want || e != api.OK {
		t.Errorf("over %d: the challenge %v %d, not %v", who.Curve(), got, e, want)
	}
}

func unchallenged(t *testing.T, who challenger) {
	t.Helper()
	if got, e := who.Challenge(); got != (api.Elem{}) || e != api.ErrTape {
		t.Errorf("over %d: the challenge %v %d of a tape that is at its end", who.Curve(), got, e)
	}
}

func writer(t *testing.T, c int, s api.Source) *Writer {
	t.Helper()
	w, e := Write(c, s)
	if w == nil || e != api.OK {
		t.Fatalf("Write(%d): %v %d", c, w, e)
	}
	return w
}

func reader(t *testing.T, c int, s api.Source, proof []byte) *Reader {
	t.Helper()
	r, e := Read(c, s, proof)
	if r == nil || e != api.OK {
		t.Fatalf("Read(%d): %v %d", c, r, e)
	}
	return r
}

// wrote: has the writer written just these bytes?
func wrote(t *testing.T, w *Writer, want []byte) {
	t.Helper()
	if got := w.Bytes(); !bytes.Equal(got, want) {
		t.Errorf("over %d: the bytes %v, not %v", w.Curve(), got, want)
	}
}

func said(t *testing.T, w *Writer, p api.Point) {
	t.Helper()
	if e := w.Point(p); e != api.OK {
		t.Errorf("over %d: Point(%v): %d", w.Curve(), p, e)
	}
}

func sources() []api.Source {
	return []api.Source{{}, {Tape: []api.Elem{{5}, {7}}}, {Mode: api.FromTape}, {Mode: api.FromTape, Tape: []api.Elem{}}, {Mode: api.FromTape, Tape: []api.Elem{{5}, {7}}}}
}

// P8.1

func opened(c int, s api.Source, look func(there bool, e api.Errno)) {
	w, e := Write(c, s)
	look(w != nil, e)
	for _, proof := range [][]byte{nil, {}, make([]byte, 31), make([]byte, 64)} {
		r, e := Read(c, s, proof)
		look(r != nil, e)
	}
}

func TestRefuses(t *testing.T) {
	curves := append([]int{0, 1, 2, 3}, wrongNumbers...)
	modes := append([]int{0, 1, 2, 3}, wrongNumbers...)
	for _, c := range curves {
		for _, mode := range modes {
			for _, n := range []int{0, 1, api.MaxTape, api.MaxTape + 1, 2 * api.MaxTape} {
				want := api.OK
				switch {
				case c < 0 || c > 3:
					want = api.ErrCurve
				case mode < 0 || mode > 1:
					want = api.ErrMode
				case n > 100000:
					want = api.ErrTape
				}
				opened(c, api.Source{Mode: mode, Tape: make([]api.Elem, n)}, func(there bool, e api.Errno) {
					if e != want || there != (want == api.OK) {
						t.Errorf("over %d, of mode %d, of a tape of %d: %v %d, not %d", c, mode, n, there, e, want)
					}
				})
			}
		}
	}
}

// P8.2

func TestCurve(t *testing.T) {
	for c := range 4 {
		for _, s := range sources() {
			w, r := writer(t, c, s), reader(t, c, s, make([]byte, 32))
			for range 2 {
				if w.Curve() != c || r.Curve() != c {
					t.Errorf("over %d: %d and %d", c, w.Curve(), r.Curve())
				}
				w.Scalar(api.Elem{1})
				w.Challenge()
				r.Point()
				r.Challenge()
			}
		}
	}
}

func TestHearIsTaken(t *testing.T) {
	for c := range 4 {
		for _, v := range scalarEdges(c) {
			h := record{curve: c}
			h.scalar(v)
			want := h.challenge()
			w := writer(t, c, api.Source{})
			w.Hear(v)
			challenged(t, w, want)
			wrote(t, w, nil)
			r := reader(t, c, api.Source{}, make([]byte, 40))
			r.Hear(v)
			challenged(t, r, want)
			if r.Rest() != 40 {
				t.Errorf("over %d: Hear has read, %d bytes are left", c, r.Rest())
			}
		}
	}
}

func TestScalar(t *testing.T) {
	for c := range 4 {
		drawn := stream(400 + c)
		for _, s := range sources() {
			w := writer(t, c, s)
			h := record{curve: c}
			var want []byte
			for _, v := range append(scalarEdges(c), drawn.elems(5)...) {
				w.Scalar(v)
				want = append(want, scalarBytes(c, v)...)
				h.scalar(v)
				wrote(t, w, want)
				if s.Mode == api.FromHash {
					challenged(t, w, h.challenge())
				}
			}
		}
	}
}

func TestPoint(t *testing.T) {
	for c := range 4 {
		drawn := stream(410 + c)
		for _, s := range sources() {
			w := writer(t, c, s)
			h := record{curve: c}
			var want []byte
			for i := range 12 {
				p := infinity
				if i > 0 {
					p = drawn.point(c)
				}
				for _, q := range []api.Point{p, curve.Neg(c, p)} {
					said(t, w, q)
					want = append(want, pointBytes(q)...)
					h.point(q)
					wrote(t, w, want)
					if s.Mode == api.FromHash {
						challenged(t, w, h.challenge())
					}
				}
			}
		}
	}
}

// A point that is refused is neither written nor taken.
func TestPointRefused(t *testing.T) {
	for c := range 4 {
		drawn := stream(420 + c)
		p := drawn.point(c)
		w, h := writer(t, c, api.Source{}), record{curve: c}
		var want []byte
		for _, q := range offTheCurve(c) {
			if e := w.Point(q); e != api.ErrPoint {
				t.Errorf("over %d: Point(%v): %d", c, q, e)
			}
			wrote(t, w, want)
			challenged(t, w, h.challenge())
			said(t, w, p)
			h.point(p)
			want = append(want, pointBytes(p)...)
		}
		wrote(t, w, want)
		taped := writer(t, c, api.Source{Mode: api.FromTape, Tape: []api.Elem{{3}}})
		for _, q := range offTheCurve(c) {
			if e := taped.Point(q); e != api.ErrPoint {
				t.Errorf("over %d, of a tape: Point(%v): %d", c, q, e)
			}
		}
		challenged(t, taped, api.Elem{3})
		wrote(t, taped, nil)
	}
}

// A scalar's mark isn't a point's, though their bytes are the same.
func TestMarks(t *testing.T) {
	for c := range 4 {
		p, v := writer(t, c, api.Source{}), writer(t, c, api.Source{})
		said(t, p, infinity)
		v.Scalar(api.Elem{})
		if !bytes.Equal(p.Bytes(), v.Bytes()) {
			t.Errorf("over %d: infinity and 0 have other bytes", c)
		}
		a, _ := p.Challenge()
		b, _ := v.Challenge()
		if a == b {
			t.Errorf("over %d: infinity and 0 are followed by one challenge", c)
		}
	}
}

func TestBytesOfNothing(t *testing.T) {
	for c := range 4 {
		for _, s := range sources() {
			w := writer(t, c, s)
			wrote(t, w, nil)
			w.Hear(api.Elem{1})
			w.Challenge()
			wrote(t, w, nil)
		}
	}
}
