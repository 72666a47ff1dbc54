package tape

import (
	"testing"

	"sigil/api"
	"sigil/curve"
)

// P8.4

// golden: challenges that were worked out by another program, of BLAKE2b and of the curves: of nothing; at once once more; behind the scalar 5; behind the point with X 1 and an odd Y; behind the scalars' modulus less 1 and infinity; behind 2^256 - 1 and the point with X 1 and an even Y.
var golden = [][]string{
	{"0xa4bca8", "0x787084", "0x41296f", "0xdda3df", "0x8aba01", "0x51bbb9"},
	{"0xd1bf3b", "0x55032a", "0x1f7981", "0xc0dada", "0x74373e", "0x7bed90"},
	{
		"0x2167736a24f76de2d67be7e3fe1a44cc8994aa9c79d80246a52effdbffc0ba58",
		"0x13a48f3da6ca14172c344d48871faf2eef4903331bb245d7ca6f6b2e360cd110",
		"0x132a448c8224f681ea6f7c912a40623a232f2a42d9b5878133de7b723eca7ac5",
		"0x19a84fe815a7cde9bba7ff80ec621773c718618e2a4d0d5ec0665221576eb288",
		"0x34a08feeb094bee2b7ea04e74531df4497898a87b31435ba08dafd521d42e65f",
		"0x2c7a189b70f1101700b145eaebfe3e4c52e962e6b57bc26b0383013a87ce8503",
	},
	{
		"0x39270648cdcc788aa588e037ae9873b3c856e9213f73b978eaa08da27c897713",
		"0x33eb11df8eccc0755fa8a1662e234f794db63f1b9954f62071cc2c1cc018287a",
		"0x3bb34bcd830c473cbb503ac31c8f2a0781bdb7de294b31250511198906101990",
		"0x34adaf4b5ea29a4e619991194a242b8d14b37d69d719d2ba6d6f3b7198fa386b",
		"0x2fcc83e7800d7e31960fc65c3e0147afc42a20c3ebb497b0b366cc2d525504c7",
		"0x18747365274a9aacb9a5eeb6e8fe4985ca7f0db4f3e148be2d57409f767a7c2e",
	},
}

// firstPoint: the point with X 1 and an odd Y.
func firstPoint(t *testing.T, c int) api.Point {
	t.Helper()
	b := make([]byte, 32)
	b[0], b[31] = 1, 0x80
	p, e := curve.Decode(c, b)
	if e != api.OK || p.Y[0]%2 == 0 {
		t.Fatalf("on %d: %v %d", c, p, e)
	}
	return p
}

func TestChallengesOfAnotherProgram(t *testing.T) {
	for c, texts := range golden {
		var want []api.Elem
		for _, text := range texts {
			want = append(want, elemOf(number(text)))
		}
		p, last := firstPoint(t, c), shifted(orderOf(c), -1)
		w := writer(t, c, api.Source{})
		challenged(t, w, want[0])
		challenged(t, w, want[1])
		w.Hear(api.Elem{5})
		challenged(t, w, want[2])
		said(t, w, p)
		challenged(t, w, want[3])
		w.Scalar(last)
		said(t, w, infinity)
		challenged(t, w, want[4])
		w.Scalar(greatest)
		said(t, w, curve.Neg(c, p))
		challenged(t, w, want[5])

		r := reader(t, c, api.Source{}, w.Bytes())
		challenged(t, r, want[0])
		challenged(t, r, want[1])
		r.Hear(api.Elem{5})
		challenged(t, r, want[2])
		readPoint(t, r, p, api.OK)
		challenged(t, r, want[3])
		readScalar(t, r, last, api.OK)
		readPoint(t, r, infinity, api.OK)
		challenged(t, r, want[4])
		readScalar(t, r, rest(c, greatest), api.OK)
		readPoint(t, r, curve.Neg(c, p), api.OK)
		challenged(t, r, want[5])
		left(t, r, 0)
	}
}

// Challenges behind one another differ, and a hash is never at its end.
func TestChallengeOnChallenge(t *testing.T) {
	for c := range 4 {
		w, r, h := writer(t, c, api.Source{}), reader(t, c, api.Source{}, nil), record{curve: c}
		for range 300 {
			want := h.challenge()
			challenged(t, w, want)
			challenged(t, r, want)
		}
	}
}

// A hash doesn't look at the tape.
func TestHashHasNoTape(t *testing.T) {
	for c := range 4 {
		for _, tape := range [][]api.Elem{nil, {}, {{5}}, make([]api.Elem, api.MaxTape)} {
			s := api.Source{Mode: api.FromHash, Tape: tape}
			w, r, h := writer(t, c, s), reader(t, c, s, nil), record{curve: c}
			for range 3 {
				want := h.challenge()
				challenged(t, w, want)
				challenged(t, r, want)
			}
		}
	}
}

func TestExample(t *testing.T) {
	for c := range 4 {
		s := api.Source{Mode: api.FromTape, Tape: []api.Elem{{5}, {7}}}
		w := writer(t, c, s)
		challenged(t, w, api.Elem{5})
		w.Scalar(api.Elem{1})
		challenged(t, w, api.Elem{7})
		unchallenged(t, w)
		if n := len(w.Bytes()); n != 32 {
			t.Errorf("over %d: %d bytes", c, n)
		}
		r := reader(t, c, s, w.Bytes())
		readScalar(t, r, api.Elem{1}, api.OK)
		left(t, r, 0)
		readScalar(t, r, api.Elem{}, api.ErrShort)
	}
}

// A tape's elements come in order, modulo the scalars' modulus, whatever is said between.
func TestTape(t *testing.T) {
	for c := range 4 {
		drawn := stream(600 + c)
		list := append(scalarEdges(c), drawn.elems(10)...)
		s := api.Source{Mode: api.FromTape, Tape: list}
		w, r := writer(t, c, s), reader(t, c, s, make([]byte, 32*len(list)))
		for i, v := range list {
			challenged(t, w, rest(c, v))
			challenged(t, r, rest(c, v))
			w.Hear(drawn.elem())
			r.Hear(drawn.elem())
			w.Scalar(drawn.elem())
			said(t, w, drawn.point(c))
			if i%2 == 0 {
				readScalar(t, r, api.Elem{}, api.OK)
			} else {
				readPoint(t, r, infinity, api.OK)
			}
		}
		for range 3 {
			unchallenged(t, w)
			unchallenged(t, r)
		}
		// The end of a tape ends nothing else.
		n := len(w.Bytes())
		w.Scalar(api.Elem{1})
		if got := len(w.Bytes()); got != n+32 {
			t.Errorf("over %d: %d bytes, not %d", c, got, n+32)
		}
		left(t, r, 0)
	}
}

func TestNoTape(t *testing.T) {
	for c := range 4 {
		for _, tape := range [][]api.Elem{nil, {}} {
			s := api.Source{Mode: api.FromTape, Tape: tape}
			w, r := writer(t, c, s), reader(t, c, s, nil)
			for range 2 {
				unchallenged(t, w)
				unchallenged(t, r)
			}
		}
	}
}

func TestLongestTape(t *testing.T) {
	for c := range 4 {
		list := make([]api.Elem, api.MaxTape)
		for i := range list {
			list[i] = api.Elem{uint64(i)}
		}
		s := api.Source{Mode: api.FromTape, Tape: list}
		w, r := writer(t, c, s), reader(t, c, s, nil)
		for _, v := range list {
			challenged(t, w, v)
			challenged(t, r, v)
		}
		unchallenged(t, w)
		unchallenged(t, r)
	}
}

// Two talks of one source have nothing in common.
func TestTalksApart(t *testing.T) {
	for c := range 4 {
		for mode := range 2 {
			s := api.Source{Mode: mode, Tape: []api.Elem{{5}, {7}, {9}}}
			alone := writer(t, c, s)
			var want []api.Elem
			for range 3 {
				v, _ := alone.Challenge()
				want = append(want, v)
				alone.Scalar(v)
			}
			first, second := writer(t, c, s), writer(t, c, s)
			r := reader(t, c, s, alone.Bytes())
			for _, v := range want {
				challenged(t, first, v)
				challenged(t, second, v)
				challenged(t, r, v)
				first.Scalar(v)
				second.Scalar(v)
				readScalar(t, r, v, api.OK)
			}
			wrote(t, first, alone.Bytes())
			wrote(t, second, alone.Bytes())
			left(t, r, 0)
		}
	}
}
