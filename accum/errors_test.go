package accum

import (
	"bytes"
	"math"
	"slices"
	"testing"

	"sigil/api"
	"sigil/curve"
)

// P21.1 and P21.2: the errors, in their order.

func TestTheParametersAreToldFirst(t *testing.T) {
	s := stream(20)
	p := made(0, 3)
	right := s.listed(p)[1]
	for _, claims := range [][]api.Claim{nil, {right}, {{}}, {right, short(right)}, make([]api.Claim, 65), slices.Repeat([]api.Claim{right}, 65)} {
		o := batch{params: p, claims: claims, r: s.elem()}
		for _, wrong := range []int{-1, 4, -2, 5, 256, -4, math.MinInt, math.MaxInt, 1 << 32, -1 << 32} {
			o.params.Curve, o.params.K = wrong, 9
			o.refused(t, -1, api.ErrCurve)
		}
		for _, k := range []int{-1, 6, 7, 64, 256 + 3, 1 << 32, 1<<32 + 3, math.MinInt, math.MaxInt} {
			o.params = made(0, 3)
			o.params.K = k
			o.refused(t, -1, api.ErrSize)
		}
		for _, spoil := range []func(p *api.Params){
			func(p *api.Params) { p.G = p.G[:7] },
			func(p *api.Params) { p.K = 4 },
			func(p *api.Params) { p.U = curve.Infinity() },
			func(p *api.Params) { p.W = api.Point{} },
			func(p *api.Params) { p.Curve = 1 },
			func(p *api.Params) { *p = api.Params{} },
		} {
			o.params = made(0, 3)
			spoil(&o.params)
			o.refused(t, -1, api.ErrParams)
		}
	}
}

func TestTooManyClaims(t *testing.T) {
	s := stream(21)
	for curve := range 4 {
		p := made(curve, 3)
		right := s.listed(p)[1]
		for _, n := range []int{65, 66, 128, 1000} {
			for _, c := range []api.Claim{right, {}, short(right), other(right)} {
				batch{params: p, claims: slices.Repeat([]api.Claim{c}, n), r: s.elem()}.refused(t, -1, api.ErrLength)
			}
		}
		batch{params: p, claims: make([]api.Claim, 64)}.refused(t, 0, api.ErrVkey)
	}
}

// spoilt: what isn't right in a claim, and its error.
var spoilt = []struct {
	spoil func(c *api.Claim)
	wrong api.Errno
}{
	{func(c *api.Claim) { *c = api.Claim{} }, api.ErrVkey},
	{func(c *api.Claim) { c.Key.Curve++ }, api.ErrVkey},
	{func(c *api.Claim) { c.Key.K++ }, api.ErrVkey},
	{func(c *api.Claim) { c.Instance = nil }, api.ErrInstance},
	{func(c *api.Claim) { c.Instance = [][]api.Elem{make([]api.Elem, 5)} }, api.ErrInstance},
	{func(c *api.Claim) { c.Instance = [][]api.Elem{{{8}}} }, api.ErrVanishing},
	{func(c *api.Claim) { c.Src.Mode = 2 }, api.ErrMode},
	{func(c *api.Claim) { c.Src.Tape = make([]api.Elem, api.MaxTape+1) }, api.ErrTape},
	{func(c *api.Claim) { c.Src.Tape = c.Src.Tape[:3] }, api.ErrTape},
	{func(c *api.Claim) { c.Src.Tape = make([]api.Elem, 30) }, api.ErrDegenerate},
	{func(c *api.Claim) { c.Proof = nil }, api.ErrShort},
	{func(c *api.Claim) { c.Proof = c.Proof[:len(c.Proof)-1] }, api.ErrShort},
	{func(c *api.Claim) { c.Proof = append(bytes.Clone(c.Proof), 0) }, api.ErrTail},
	{func(c *api.Claim) { c.Proof = bytes.Repeat([]byte{0xff}, len(c.Proof)) }, api.ErrPoint},
	{func(c *api.Claim) {
		c.Proof = append(bytes.Clone(c.Proof[:len(c.Proof)-32]), bytes.Repeat([]byte{0xff}, 32)...)
	}, api.ErrCodec},
}

// The first claim that isn't right is told, by its place and its error; one whose opening doesn't hold isn't.
func TestTheFirstErrorIsTold(t *testing.T) {
	s := stream(22)
	for curve := range 4 {
		p := made(curve, 3)
		// A claim with an instance and challenges from a tape, to spoil.
		told := s.listed(p)[3]
		o := batch{params: p, claims: append(s.listed(p)[1:3], told, other(told), told, other(told)), r: s.elem()}
		for place := range o.claims {
			for i, each := range spoilt {
				c := told
				each.spoil(&c)
				one := o.with(place, c)
				one.refused(t, place, each.wrong)
				one.by(api.Elem{}).refused(t, place, each.wrong)
				if place == 0 {
					continue
				}
				// An earlier one goes first, whatever its error.
				before := told
				spoilt[(i+1+s.below(len(spoilt)-1))%len(spoilt)].spoil(&before)
				first := s.below(place)
				both := one.with(first, before)
				both.asTold(t)
				if _, at, _ := Fold(both.params, both.claims, both.r); at != first {
					t.Errorf("on %d: the place %d, not %d", curve, at, first)
				}
			}
		}
	}
}

// Claims are of the parameters' curve and size.
func TestClaimsOfOtherParameters(t *testing.T) {
	s := stream(23)
	for curve := range 4 {
		p := made(curve, 3)
		right := s.listed(p)[1]
		for _, q := range []api.Params{made((curve+1)%4, 3), made(curve, 4)} {
			o := batch{params: q, claims: []api.Claim{s.drawn(q), right}}
			o.refused(t, 1, api.ErrVkey)
			o.params = p
			o.refused(t, 0, api.ErrVkey)
		}
	}
}

// Any claims that are spoilt: as the document's words tell.
func TestAnyBatch(t *testing.T) {
	s := stream(24)
	for curve := range 2 {
		p := made(curve, 3)
		listed := s.listed(p)
		for range 300 {
			o := batch{params: p, r: s.challenges(curve)[s.below(9)]}
			for range s.below(5) {
				c := listed[s.below(len(listed))]
				switch s.below(8) {
				case 0:
					c = other(c)
				case 1:
					c.Proof = bytes.Clone(c.Proof)
					c.Proof[s.below(len(c.Proof))] ^= 1 << s.below(8)
				case 2:
					c.Src = api.Source{Mode: s.below(3), Tape: s.elems(s.below(20))}
				case 3:
					c.Key = listed[s.below(len(listed))].Key
				}
				o.claims = append(o.claims, c)
			}
			o.asTold(t)
		}
	}
}
