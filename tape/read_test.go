package tape

import (
	"bytes"
	"math/big"
	"slices"
	"testing"

	"sigil/api"
	"sigil/curve"
)

// P8.3

func left(t *testing.T, r *Reader, want int) {
	t.Helper()
	if got := r.Rest(); got != want {
		t.Errorf("over %d: %d bytes are left, not %d", r.Curve(), got, want)
	}
}

func readPoint(t *testing.T, r *Reader, want api.Point, wrong api.Errno) {
	t.Helper()
	if got, e := r.Point(); got != want || e != wrong {
		t.Errorf("over %d: Point: %v %d, not %v %d", r.Curve(), got, e, want, wrong)
	}
}

func readScalar(t *testing.T, r *Reader, want api.Elem, wrong api.Errno) {
	t.Helper()
	if got, e := r.Scalar(); got != want || e != wrong {
		t.Errorf("over %d: Scalar: %v %d, not %v %d", r.Curve(), got, e, want, wrong)
	}
}

func TestReadPoints(t *testing.T) {
	for c := range 4 {
		drawn := stream(500 + c)
		points := []api.Point{infinity}
		for range 8 {
			p := drawn.point(c)
			points = append(points, p, curve.Neg(c, p))
		}
		var proof []byte
		for _, p := range points {
			proof = append(proof, pointBytes(p)...)
		}
		for _, s := range sources() {
			r, h := reader(t, c, s, proof), record{curve: c}
			for i, p := range points {
				left(t, r, 32*(len(points)-i))
				readPoint(t, r, p, api.OK)
				h.point(p)
				if s.Mode == api.FromHash {
					challenged(t, r, h.challenge())
				}
			}
			left(t, r, 0)
			readPoint(t, r, api.Point{}, api.ErrShort)
		}
	}
}

func TestReadScalars(t *testing.T) {
	for c := range 4 {
		drawn := stream(510 + c)
		scalars := []api.Elem{{}, {1}, shifted(orderOf(c), -1), rest(c, drawn.elem()), rest(c, drawn.elem())}
		var proof []byte
		for _, v := range scalars {
			proof = append(proof, scalarBytes(c, v)...)
		}
		for _, s := range sources() {
			r, h := reader(t, c, s, proof), record{curve: c}
			for i, v := range scalars {
				left(t, r, 32*(len(scalars)-i))
				readScalar(t, r, v, api.OK)
				h.scalar(v)
				if s.Mode == api.FromHash {
					challenged(t, r, h.challenge())
				}
			}
			left(t, r, 0)
			readScalar(t, r, api.Elem{}, api.ErrShort)
		}
	}
}

// Fewer than 32 bytes are told ahead of bytes that would be refused, and stay left.
func TestReadShort(t *testing.T) {
	for c := range 4 {
		for n := range 70 {
			for _, fill := range []byte{0, 255} {
				r, h := reader(t, c, api.Source{}, bytes.Repeat([]byte{fill}, n)), record{curve: c}
				left(t, r, n)
				for rest := n; rest >= 32 && fill == 0; rest -= 32 {
					readScalar(t, r, api.Elem{}, api.OK)
					h.scalar(api.Elem{})
				}
				if fill == 255 && n >= 32 {
					readScalar(t, r, api.Elem{}, api.ErrCodec)
					readPoint(t, r, api.Point{}, api.ErrPoint)
					left(t, r, n)
				} else {
					for range 2 {
						readScalar(t, r, api.Elem{}, api.ErrShort)
						readPoint(t, r, api.Point{}, api.ErrShort)
						left(t, r, n%32)
					}
				}
				challenged(t, r, h.challenge())
			}
		}
	}
}

// notPoints: 32 bytes each that are no point's.
func notPoints(c int) [][]byte {
	m := number(moduli[c])
	var unsquared []byte
	for x := byte(1); unsquared == nil; x++ {
		b := make([]byte, 32)
		b[0] = x
		if _, e := curve.Decode(c, b); e != api.OK {
			unsquared = b
		}
	}
	marked := make([]byte, 32)
	marked[31] = 0x80
	drawn := stream(520 + c)
	// A point's X and the modulus more.
	beyond := leastFirst(new(big.Int).Add(m, bigOf(drawn.point(c).X)))
	return [][]byte{unsquared, marked, leastFirst(m), beyond, bytes.Repeat([]byte{255}, 32)}
}

// A point's bytes that are refused are neither read nor taken: something else may be read there.
func TestReadPointRefused(t *testing.T) {
	for c := range 4 {
		drawn := stream(530 + c)
		p := drawn.point(c)
		for _, b := range notPoints(c) {
			r, h := reader(t, c, api.Source{}, slices.Concat(pointBytes(p), b, pointBytes(p))), record{curve: c}
			readPoint(t, r, p, api.OK)
			h.point(p)
			for range 2 {
				readPoint(t, r, api.Point{}, api.ErrPoint)
				left(t, r, 64)
			}
			challenged(t, r, h.challenge())
			taped := reader(t, c, api.Source{Mode: api.FromTape, Tape: []api.Elem{{3}}}, b)
			readPoint(t, taped, api.Point{}, api.ErrPoint)
			left(t, taped, 32)
			challenged(t, taped, api.Elem{3})
		}
		unsquared := notPoints(c)[0]
		r, h := reader(t, c, api.Source{}, unsquared), record{curve: c}
		readPoint(t, r, api.Point{}, api.ErrPoint)
		readScalar(t, r, api.Elem{uint64(unsquared[0])}, api.OK)
		h.scalar(api.Elem{uint64(unsquared[0])})
		challenged(t, r, h.challenge())
		left(t, r, 0)
	}
}

// A scalar's bytes that are refused are neither read nor taken.
func TestReadScalarRefused(t *testing.T) {
	for c := range 4 {
		m := orderOf(c)
		for _, v := range []api.Elem{elemOf(m), shifted(m, 1), elemOf(new(big.Int).Lsh(m, 1)), {0, 0, 0, 1 << 63}, greatest} {
			proof := slices.Concat(scalarBytes(c, api.Elem{9}), leastFirst(bigOf(v)), make([]byte, 5))
			r, h := reader(t, c, api.Source{}, proof), record{curve: c}
			readScalar(t, r, api.Elem{9}, api.OK)
			h.scalar(api.Elem{9})
			for range 2 {
				readScalar(t, r, api.Elem{}, api.ErrCodec)
				left(t, r, 37)
			}
			challenged(t, r, h.challenge())
			taped := reader(t, c, api.Source{Mode: api.FromTape, Tape: []api.Elem{{3}}}, leastFirst(bigOf(v)))
			readScalar(t, taped, api.Elem{}, api.ErrCodec)
			left(t, taped, 32)
			challenged(t, taped, api.Elem{3})
		}
	}
	// On the great curves a point's bytes with an odd Y are no scalar's.
	for c := 2; c < 4; c++ {
		drawn := stream(540 + c)
		p := drawn.point(c)
		if p.Y[0]%2 == 0 {
			p = curve.Neg(c, p)
		}
		r := reader(t, c, api.Source{}, pointBytes(p))
		readScalar(t, r, api.Elem{}, api.ErrCodec)
		readPoint(t, r, p, api.OK)
		left(t, r, 0)
	}
}

// A point is decoded by the curve's field, a scalar by the other one of the pair: at their moduli the two differ.
func TestReadByTheRightField(t *testing.T) {
	for _, c := range []int{1, 3} {
		// Here the field's modulus is greater than the scalars'.
		v := shifted(orderOf(c), 1)
		for _, e := range []struct {
			curve int
			want  api.Elem
			wrong api.Errno
		}{{c, api.Elem{}, api.ErrCodec}, {c ^ 1, v, api.OK}} {
			readScalar(t, reader(t, e.curve, api.Source{}, leastFirst(bigOf(v))), e.want, e.wrong)
		}
	}
}

// turn: one step of a talk, drawn; what is said is said by the writer and read by the reader.
func turn(t *testing.T, c int, drawn *stream, steps *[]func(r *Reader), w *Writer) {
	later := func(f func(r *Reader)) { *steps = append(*steps, f) }
	switch drawn.word() % 5 {
	case 0:
		v := drawn.elem()
		w.Hear(v)
		later(func(r *Reader) { r.Hear(v) })
	case 1:
		p := drawn.point(c)
		said(t, w, p)
		later(func(r *Reader) { readPoint(t, r, p, api.OK) })
	case 2:
		said(t, w, infinity)
		later(func(r *Reader) { readPoint(t, r, infinity, api.OK) })
	case 3:
		v := drawn.elem()
		w.Scalar(v)
		later(func(r *Reader) { readScalar(t, r, rest(c, v), api.OK) })
	case 4:
		want, wrong := w.Challenge()
		later(func(r *Reader) {
			if got, e := r.Challenge(); got != want || e != wrong {
				t.Errorf("over %d: the reader's challenge is %v %d, the writer's %v %d", c, got, e, want, wrong)
			}
		})
	}
}

// What a writer says a reader hears, with the same challenges.
func TestWhatIsSaidIsHeard(t *testing.T) {
	for c := range 4 {
		for mode := range 2 {
			for i := range 20 {
				drawn := stream(550 + 100*i + 10*c + mode)
				s := api.Source{Mode: mode, Tape: drawn.elems(6)}
				w := writer(t, c, s)
				var steps []func(r *Reader)
				for range 40 {
					turn(t, c, &drawn, &steps, w)
				}
				r := reader(t, c, s, w.Bytes())
				left(t, r, len(w.Bytes()))
				for _, step := range steps {
					step(r)
				}
				left(t, r, 0)
			}
		}
	}
}
