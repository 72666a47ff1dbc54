package jacobian_test

import (
	"testing"

	"sigil/api"
	"sigil/curve"
	"sigil/field"
	"sigil/jacobian"
)

// points: infinity, some points of the plane, one of them with its opposite.
func points(t *testing.T, c int) []api.Point {
	t.Helper()
	list := []api.Point{curve.Infinity()}
	b := make([]byte, 32)
	for x := byte(1); len(list) < 6; x++ {
		b[0] = x
		if p, e := curve.Decode(c, b); e == api.OK {
			list = append(list, p)
		}
	}
	return append(list, curve.Neg(c, list[1]))
}

// forms: what stands for p in several ways, with a Z of 1 and with others.
func forms(c int, p api.Point) []jacobian.Point {
	list := []jacobian.Point{jacobian.Of(p)}
	for _, z := range []api.Elem{{2}, {12345}, field.Neg(c, api.Elem{1})} {
		square := field.Mul(c, z, z)
		list = append(list, jacobian.Point{
			X: field.Mul(c, p.X, square),
			Y: field.Mul(c, p.Y, field.Mul(c, z, square)),
			Z: field.Mul(c, list[0].Z, z),
		})
	}
	return list
}

func TestPlain(t *testing.T) {
	for c := range 4 {
		for _, p := range points(t, c) {
			for _, f := range forms(c, p) {
				if got := f.Plain(c); got != p {
					t.Errorf("on %d: %v stands for %v, not %v", c, f, got, p)
				}
			}
		}
	}
}

// Sums are those of curve.Add, which goes by slopes: of points with one X too, in whatever form.
func TestSums(t *testing.T) {
	for c := range 4 {
		for _, p := range points(t, c) {
			for _, f := range forms(c, p) {
				if got, want := f.Twice(c).Plain(c), curve.Add(c, p, p); got != want {
					t.Errorf("on %d: twice %v: %v, not %v", c, p, got, want)
				}
			}
			for _, q := range points(t, c) {
				want := curve.Add(c, p, q)
				for _, f := range forms(c, p) {
					for _, g := range forms(c, q) {
						if got := f.Plus(c, g).Plain(c); got != want {
							t.Errorf("on %d: %v and %v: %v, not %v", c, f, g, got, want)
						}
					}
				}
			}
		}
	}
}
