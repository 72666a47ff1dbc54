package verify

import (
	"bytes"
	"math"
	"slices"
	"testing"

	"sigil/api"
	"sigil/curve"
	"sigil/field"
	"sigil/sample"
)

// P20.1, the step 1: in its order.

// worse: the claim with each of the later errors of the step 1 too.
func (o claim) worse() []claim {
	var list []claim
	for _, turn := range []func(o *claim){
		func(o *claim) { o.key = api.Vkey{} },
		func(o *claim) { o.key.Sigma = nil },
		func(o *claim) { o.instance = nil },
		func(o *claim) { o.src.Mode = 2 },
		func(o *claim) { o.src.Tape = make([]api.Elem, api.MaxTape+1) },
		func(o *claim) { o.proof = nil },
		func(o *claim) {},
	} {
		other := o.own()
		turn(&other)
		list = append(list, other)
	}
	return list
}

func TestVerifyRefusesTheParameters(t *testing.T) {
	s := stream(20)
	c, filled := sample.Told(9)
	o := s.taskOf(0, 3, c, filled).claimed(t)
	for _, other := range o.worse() {
		for _, wrong := range wrongCurves {
			other.params.Curve, other.params.K = wrong, 9
			other.refused(t, api.ErrCurve)
		}
		for _, k := range []int{-1, 6, 7, 64, 256 + 3, 1 << 32, 1<<32 + 3, math.MinInt, math.MaxInt} {
			other.params = made(0, 3)
			other.params.K = k
			other.refused(t, api.ErrSize)
		}
		for _, spoil := range []func(p *api.Params){
			func(p *api.Params) { p.G = p.G[:7] },
			func(p *api.Params) { p.K = 4 },
			func(p *api.Params) { p.U = curve.Infinity() },
			func(p *api.Params) { p.W = api.Point{} },
			func(p *api.Params) { p.Curve = 1 },
			func(p *api.Params) { *p = api.Params{} },
		} {
			other.params = made(0, 3)
			spoil(&other.params)
			other.refused(t, api.ErrParams)
		}
	}
}

func TestVerifyRefusesTheKey(t *testing.T) {
	s := stream(21)
	c, filled := sample.Full()
	for mode := range 2 {
		of := s.taskOf(0, 3, c, filled)
		of.src.Mode = mode
		o := of.claimed(t)
		off := api.Point{X: api.Elem{1}, Y: api.Elem{1}}
		for _, spoil := range []func(v *api.Vkey){
			func(v *api.Vkey) { *v = api.Vkey{} },
			func(v *api.Vkey) { v.Curve = 1 },
			func(v *api.Vkey) { v.Curve = 4 },
			func(v *api.Vkey) { v.Curve = -1 },
			func(v *api.Vkey) { v.Curve += 1 << 32 },
			func(v *api.Vkey) { v.K = 2 },
			func(v *api.Vkey) { v.K = 4 },
			func(v *api.Vkey) { v.K = 5 },
			func(v *api.Vkey) { v.K = 6 },
			func(v *api.Vkey) { v.K += 1 << 32 },
			func(v *api.Vkey) { v.Fixed = v.Fixed[1:] },
			func(v *api.Vkey) { v.Fixed = append(v.Fixed, v.Fixed[0]) },
			func(v *api.Vkey) { v.Fixed[1] = off },
			func(v *api.Vkey) { v.Fixed[2] = api.Point{} },
			func(v *api.Vkey) { v.Sigma = v.Sigma[1:] },
			func(v *api.Vkey) { v.Sigma = append(v.Sigma, v.Sigma[0]) },
			func(v *api.Vkey) { v.Sigma[3] = off },
			func(v *api.Vkey) { v.Circuit = api.Circuit{} },
			func(v *api.Vkey) { v.Circuit.Gates[0] = 99 },
			func(v *api.Vkey) { v.Circuit.Nodes[0].A = 3 },
			func(v *api.Vkey) { v.Circuit.Equal[1] = v.Circuit.Equal[0] },
			func(v *api.Vkey) { v.Circuit.Advice = 9 },
			func(v *api.Vkey) { v.Circuit.Fixed = 2 },
		} {
			for _, other := range o.worse()[2:] {
				spoil(&other.key)
				other.refused(t, api.ErrVkey)
			}
		}
	}
	// A right key of another size, or over another curve, is another's; nothing is proved at the least sizes.
	c, filled = sample.Told(9)
	o := s.taskOf(0, 4, c, filled).claimed(t)
	for _, size := range []int{0, 1, 2, 3, 5} {
		other := o
		other.params = made(0, size)
		other.refused(t, api.ErrVkey)
		other.key.K = size
		if size < 3 {
			other.refused(t, api.ErrVkey)
		}
	}
	for other := 1; other < 4; other++ {
		o.params = made(other, 4)
		o.refused(t, api.ErrVkey)
	}
}

func TestVerifyRefusesTheInstance(t *testing.T) {
	s := stream(22)
	for k := 3; k <= 5; k++ {
		usable := 1<<k - 4
		c, filled := sample.Told(9)
		c.Instance = 3
		filled.Instance = [][]api.Elem{sample.Column(9), nil, nil}
		o := s.taskOf(k%2, k, c, filled).claimed(t)
		o.taken(t)
		for _, wrong := range [][][]api.Elem{
			nil,
			{sample.Column(9)},
			{sample.Column(9), nil},
			{sample.Column(9), nil, nil, nil},
			{sample.Column(9), make([]api.Elem, usable+1), nil},
			{sample.Column(9), nil, make([]api.Elem, usable+1)},
			{make([]api.Elem, usable+1), nil, nil},
			{sample.Column(9), make([]api.Elem, usable), make([]api.Elem, 1<<k)},
			{sample.Column(9), nil, make([]api.Elem, 1<<k+1)},
			{make([]api.Elem, 70), make([]api.Elem, 70), make([]api.Elem, 70)},
		} {
			for _, other := range o.worse()[3:] {
				other.instance = wrong
				other.refused(t, api.ErrInstance)
			}
		}
		o.instance = [][]api.Elem{append(sample.Column(9), make([]api.Elem, usable-1)...), make([]api.Elem, usable), make([]api.Elem, usable)}
		o.taken(t)
	}
}

func TestVerifyRefusesTheSource(t *testing.T) {
	s := stream(23)
	c, filled := sample.Told(9)
	o := s.taskOf(1, 3, c, filled).claimed(t)
	for _, proof := range [][]byte{nil, o.proof, o.proof[1:]} {
		for _, mode := range []int{-1, 2, 1 << 32, 1<<32 + 1, math.MinInt, math.MaxInt} {
			for _, tape := range [][]api.Elem{nil, o.src.Tape, make([]api.Elem, api.MaxTape+1)} {
				other := o
				other.proof, other.src = proof, api.Source{Mode: mode, Tape: tape}
				other.refused(t, api.ErrMode)
			}
		}
		for mode := range 2 {
			other := o
			other.proof, other.src = proof, api.Source{Mode: mode, Tape: make([]api.Elem, api.MaxTape+1)}
			other.refused(t, api.ErrTape)
		}
	}
	long := o
	long.src.Tape = append(slices.Clone(o.src.Tape), make([]api.Elem, api.MaxTape-len(o.src.Tape))...)
	long.taken(t)
}

// P20.1, the step 3.

// A proof that is too short is told as that at each length.
func TestVerifyOfShortProofs(t *testing.T) {
	s := stream(24)
	for mode := range 2 {
		s.little(t, mode, func(o claim) {
			for n := range o.proof {
				if len(o.proof) > 1000 && s.below(5) > 0 {
					continue
				}
				other := o
				other.proof = o.proof[:n]
				other.refused(t, api.ErrShort)
			}
		})
	}
}

// So is a tape; and what is missed first is told.
func TestVerifyOfShortTapes(t *testing.T) {
	s := stream(25)
	s.little(t, api.FromTape, func(o claim) {
		theta, beta, gamma, y, points := o.ahead()
		for n := range o.src.Tape {
			other := o
			other.src.Tape = o.src.Tape[:n]
			other.refused(t, api.ErrTape)
			other.asTold(t)
			// The opening's two come ahead of all that it says.
			at := points + len(o.asks())
			if n < 5 {
				at = []int{theta, beta, gamma, y, points}[n]
			}
			if n > 6 {
				continue
			}
			other.proof = o.proof[:32*at]
			other.refused(t, api.ErrTape)
			if at > 0 {
				other.proof = o.proof[:32*at-1]
				other.refused(t, api.ErrShort)
			}
		}
	})
}

// Points and scalars that are none are told where they stand.
func TestVerifyOfNoPoints(t *testing.T) {
	s := stream(26)
	for mode := range 2 {
		s.little(t, mode, func(o claim) {
			_, _, _, _, points := o.ahead()
			all := bytes.Repeat([]byte{0xff}, 32)
			asks := len(o.asks())
			for i := range points {
				other := o.own()
				other.replace(i, all)
				other.refused(t, api.ErrPoint)
				// What is behind it isn't read.
				other.proof = other.proof[:32*(i+1)]
				other.refused(t, api.ErrPoint)
				other.proof = other.proof[:32*i+31]
				other.refused(t, api.ErrShort)
			}
			for i := points; i < points+asks; i++ {
				for _, b := range [][]byte{all, numbered(o)} {
					other := o.own()
					other.replace(i, b)
					other.refused(t, api.ErrCodec)
					other.proof = other.proof[:32*(i+1)]
					other.refused(t, api.ErrCodec)
					other.proof = other.proof[:32*i+31]
					other.refused(t, api.ErrShort)
				}
			}
			// The opening begins with a point and a scalar, and ends with two scalars.
			for place, want := range map[int]api.Errno{points + asks: api.ErrPoint, points + asks + 1: api.ErrCodec, len(o.proof)/32 - 1: api.ErrCodec, len(o.proof)/32 - 3: api.ErrPoint} {
				other := o.own()
				other.replace(place, all)
				other.refused(t, want)
				other.proof = append(other.proof, 1)
				other.refused(t, want)
			}
		})
	}
}

// numbered: the bytes of the least number that is no scalar's.
func numbered(o claim) []byte {
	b := make([]byte, 32)
	orderOf(o.params.Curve).FillBytes(b)
	slices.Reverse(b)
	if _, e := field.Decode(o.params.Curve^1, b); e != api.ErrCodec {
		panic(e)
	}
	return b
}

// x is 0, or a point of the domain.
func TestVerifyAtAPoint(t *testing.T) {
	s := stream(27)
	s.some(t, func(o claim) {
		if o.src.Mode != api.FromTape {
			return
		}
		k := o.params.K
		list := []api.Elem{{}}
		for row := range 1 << k {
			list = append(list, elemOf(o.by().point(k, row)))
		}
		_, _, _, _, points := o.ahead()
		for i, v := range list {
			other := o.own()
			other.src.Tape[4] = beside(o.params.Curve, v, int64(i%3))
			other.refused(t, api.ErrDegenerate)
			// Neither values nor challenges behind x are asked for any more.
			other.src.Tape, other.proof = other.src.Tape[:5], other.proof[:32*points]
			other.refused(t, api.ErrDegenerate)
			if points > 0 {
				other.proof = other.proof[:32*points-1]
				other.refused(t, api.ErrShort)
			}
			other.src.Tape, other.proof = other.src.Tape[:4], o.proof[:32*points]
			other.refused(t, api.ErrTape)
		}
		// No point, though its power is one of two points.
		other := o.own()
		other.src.Tape[4] = elemOf(o.by().point(k+1, 1))
		if got := other.asTold(t); got == api.ErrDegenerate {
			t.Error("a point of the next size is refused as one of this size")
		}
	})
}

// P20.1, the steps 4 to 6: a wrong sum is told ahead of what the opening lacks, that ahead of bytes that are left, and these ahead of an opening that doesn't hold.

func TestVerifyTellsTheFirst(t *testing.T) {
	s := stream(28)
	for mode := range 2 {
		s.little(t, mode, func(o claim) {
			_, _, _, _, points := o.ahead()
			opening := 32 * (points + len(o.asks()))
			other := o.own()
			other.put(points+len(o.asks())-1, o.by().of(s.elem()))
			other.refused(t, api.ErrVanishing)
			for _, end := range []int{opening, opening + 1, opening + 32, len(o.proof) - 1} {
				short := other
				short.proof = other.proof[:end]
				short.refused(t, api.ErrVanishing)
			}
			other.proof = append(other.proof, 0)
			other.refused(t, api.ErrVanishing)
			if mode == api.FromTape {
				short := other
				short.src.Tape = o.src.Tape[:5]
				short.refused(t, api.ErrVanishing)
			}
			other.proof = other.proof[:opening-1]
			other.refused(t, api.ErrShort)
			other = o.own()
			other.put(len(o.proof)/32-1, o.by().of(s.elem()))
			other.unopened(t)
			for _, more := range []int{1, 31, 32, 33, 1000} {
				long := other
				long.proof = append(bytes.Clone(other.proof), make([]byte, more)...)
				long.refused(t, api.ErrTail)
				long.proof = append(bytes.Clone(o.proof), o.proof[:min(more, len(o.proof))]...)
				long.refused(t, api.ErrTail)
			}
			other.proof = other.proof[:len(other.proof)-1]
			other.refused(t, api.ErrShort)
		})
	}
}

// The opening's error is told: where it is looked at is a point that is asked for, or a round has a challenge of 0.
func TestVerifyOfDegenerateOpenings(t *testing.T) {
	s := stream(29)
	s.little(t, api.FromTape, func(o claim) {
		x := o.by().of(o.src.Tape[4])
		for _, a := range o.asks() {
			other := o.own()
			other.src.Tape[7] = elemOf(o.by().mul(x, o.by().point(o.params.K, a.Rot)))
			other.refused(t, api.ErrDegenerate)
			other.proof = append(other.proof, 1)
			other.refused(t, api.ErrDegenerate)
		}
		for i := len(o.src.Tape) - o.params.K; i < len(o.src.Tape); i++ {
			other := o.own()
			other.src.Tape[i] = elemOf(orderOf(o.params.Curve))
			other.proof = append(other.proof, 1)
			other.refused(t, api.ErrDegenerate)
		}
	})
}

// Other challenges may be 0.
func TestVerifyByNothing(t *testing.T) {
	s := stream(30)
	c, filled := sample.Full()
	for curve := range 2 {
		of := s.taskOf(curve, 3, c, filled)
		for _, place := range []int{0, 3, 5, 6, 8} {
			of.src.Tape = slices.Clone(of.src.Tape)
			of.src.Tape[place] = beside(curve, api.Elem{}, int64(place%2))
			of.claimed(t).taken(t)
		}
	}
}

// spoil: one thing of a claim is another one; it may be right all the same.
func (s *stream) spoil(o *claim) {
	n := []int{s.below(12) - 2, int(s.word()), s.below(70)}[s.below(3)]
	c := &o.key.Circuit
	switch s.below(14) {
	case 0:
		*[]*int{&c.Fixed, &c.Advice, &c.Instance}[s.below(3)] = n
	case 1:
		if len(c.Nodes) > 0 {
			one := &c.Nodes[s.below(len(c.Nodes))]
			*[]*int{&one.Op, &one.A, &one.B}[s.below(3)] = n
		}
	case 2:
		o.params = made(o.params.Curve&3, s.below(6))
	case 3:
		*[]*int{&o.params.K, &o.params.Curve, &o.src.Mode, &o.key.K, &o.key.Curve}[s.below(5)] = n
	case 4:
		o.instance = append(o.instance, s.elems(s.below(6)))
	case 5:
		if len(o.instance) > 0 {
			one := &o.instance[s.below(len(o.instance))]
			*one = append(*one, s.elem())
		}
	case 6:
		if len(o.src.Tape) > 0 {
			o.src.Tape = o.src.Tape[:s.below(len(o.src.Tape))]
		}
	case 7, 8:
		if len(o.src.Tape) > 0 {
			o.src.Tape[s.below(len(o.src.Tape))] = []api.Elem{s.elem(), {}, {1}, greatest}[s.below(4)]
		}
	case 9:
		if keyed := slices.Concat(o.key.Fixed, o.key.Sigma); len(keyed) > 0 {
			for _, list := range [][]api.Point{o.key.Fixed, o.key.Sigma} {
				for i := range list {
					if s.below(3) == 0 {
						list[i] = keyed[s.below(len(keyed))]
					}
				}
			}
		}
	case 10:
		o.proof = append(o.proof, make([]byte, s.below(40))...)
	case 11:
		o.proof = o.proof[:s.below(len(o.proof)+1)]
	default:
		if len(o.proof) >= 64 {
			from := s.below(len(o.proof)/32 - 1)
			if s.below(2) == 0 {
				o.proof[32*from+s.below(32)] = byte(s.word())
			} else {
				o.replace(s.below(len(o.proof)/32), bytes.Clone(o.item(from)))
			}
		}
	}
}

// What is answered to claims that are spoilt in any way is what the document's words tell.
func TestVerifyOfSpoiltClaims(t *testing.T) {
	s := stream(31)
	seen := map[api.Errno]int{}
	for i := range 700 {
		curve, k := i%2, 3+i/2%3
		if i%50 == 0 {
			curve, k = 2+i/50%2, 3
		}
		c, filled := sample.Drawn(s.word(), curve, k)
		of := s.taskOf(curve, k, c, filled)
		of.src.Mode = s.below(2)
		o := of.claimed(t)
		for range 3 {
			other := o.own()
			for range 1 + s.below(2) {
				s.spoil(&other)
			}
			seen[other.asTold(t)]++
		}
	}
	for _, e := range []api.Errno{api.OK, api.ErrCurve, api.ErrPoint, api.ErrSize, api.ErrMode, api.ErrTape, api.ErrShort, api.ErrParams, api.ErrVkey, api.ErrInstance, api.ErrTail, api.ErrVanishing, api.ErrOpening} {
		if seen[e] < 10 {
			t.Errorf("too few of the error %d: %v", e, seen)
		}
	}
}
