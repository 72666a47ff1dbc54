package multi

import (
	"maps"
	"slices"

	"sigil/api"
	"sigil/domain"
	"sigil/field"
	"sigil/step"
)

// most is the most asks.
const most = 256

// asked is what is asked of a polynomial: its value by the Rot, which is below the size.
type asked map[int]api.Elem

// set is the polynomials that are asked for at the same Rots.
type set struct {
	rots   []int      // rising
	points []api.Elem // the points of the Rots
	polys  []int      // the polynomials' places
	asked  []asked    // what is asked of each
}

// setsOf: the asks of so many polynomials, set by set, without points; gives up, if they aren't right.
func setsOf(asks []api.Ask, polys, size int) []set {
	if len(asks) == 0 || len(asks) > most {
		step.Refuse(api.ErrLength)
	}
	order, of := gather(asks, polys, size)
	var sets []set
	for _, poly := range order {
		rots := slices.Sorted(maps.Keys(of[poly]))
		i := slices.IndexFunc(sets, func(s set) bool { return slices.Equal(s.rots, rots) })
		if i < 0 {
			i = len(sets)
			sets = append(sets, set{rots: rots})
		}
		sets[i].polys = append(sets[i].polys, poly)
		sets[i].asked = append(sets[i].asked, of[poly])
	}
	return sets
}

// gather: which polynomials are asked for, in that order, and what of each.
func gather(asks []api.Ask, polys, size int) ([]int, map[int]asked) {
	var order []int
	of := make(map[int]asked)
	for _, a := range asks {
		if a.Poly < 0 || a.Poly >= polys {
			step.Refuse(api.ErrLength)
		}
		if of[a.Poly] == nil {
			of[a.Poly] = make(asked)
			order = append(order, a.Poly)
		}
		// The size is a power of 2, and the lower bits of a number below 0 are right too.
		rot := a.Rot & (size - 1)
		if _, again := of[a.Poly][rot]; again {
			step.Refuse(api.ErrLength)
		}
		of[a.Poly][rot] = a.V
	}
	return order, of
}

// locate: tells the sets their points; gives up, if x is 0, for then all points are one.
func locate(sets []set, p api.Params, x api.Elem) {
	sort := scalars(p.Curve)
	if field.Add(sort, x, api.Elem{}) == (api.Elem{}) {
		step.Refuse(api.ErrDegenerate)
	}
	powers := step.Must(domain.Points(sort, p.K))
	for i, s := range sets {
		for _, rot := range s.rots {
			sets[i].points = append(sets[i].points, field.Mul(sort, powers[rot], x))
		}
	}
}

// apart: a challenge; gives up, if it is a point of a set, for there what is divided by is 0.
func apart(sets []set, challenge api.Elem) api.Elem {
	for _, s := range sets {
		if slices.Contains(s.points, challenge) {
			step.Refuse(api.ErrDegenerate)
		}
	}
	return challenge
}
