package sample

import (
	"reflect"
	"testing"

	"sigil/api"
	"sigil/circuit"
	"sigil/expr"
	"sigil/sheet"
)

// sortOf: that of a curve's scalars.
func sortOf(curve int) int { return []int{1, 0, 3, 2}[curve] }

// holds: is the circuit right, and does the sheet break nothing of it?
func holds(t *testing.T, curve, k int, c api.Circuit, s api.Sheet) {
	t.Helper()
	if faults, e := sheet.Faults(sortOf(curve), c, k, s); len(faults) != 0 || e != api.OK {
		t.Errorf("on %d of the size %d %v of %v breaks %v, %d", curve, k, s, c, faults, e)
	}
}

func TestWhatIsDrawnIsOfAllKinds(t *testing.T) {
	degrees, rots, kinds, copies, lookups, gates := map[int]int{}, map[int]int{}, map[int]int{}, 0, 0, 0
	for i := range 300 {
		curve, k := i%4, 3+i%3
		c, s := Drawn(uint64(i)<<20, curve, k)
		holds(t, curve, k, c, s)
		degree, _ := circuit.Degree(c)
		degrees[degree]++
		for _, q := range expr.Queries(c.Nodes) {
			rots[q.Rot]++
		}
		for _, e := range c.Equal {
			kinds[e.Kind]++
		}
		copies += len(s.Copies)
		lookups += len(c.Lookups)
		gates += len(c.Gates)
	}
	for _, few := range []struct {
		of    map[int]int
		least []int
	}{{degrees, []int{3, 4, 5, 6, 7}}, {rots, []int{-3, -2, -1, 0, 1, 2, 3}}, {kinds, []int{2, 3, 4}}} {
		for _, n := range few.least {
			if few.of[n] < 10 {
				t.Errorf("too few of %d: %v", n, few.of)
			}
		}
	}
	if copies < 500 || lookups < 150 || gates < 250 {
		t.Errorf("too few: %d copies, %d lookups, %d gates", copies, lookups, gates)
	}
}

func TestShapesHold(t *testing.T) {
	for curve := range 4 {
		for k := 3; k <= 5; k++ {
			count, greatest, most, tied := 0, 0, 0, map[int]int{}
			Shapes(7, curve, k, func(c api.Circuit, s api.Sheet) {
				count++
				holds(t, curve, k, c, s)
				degree, _ := circuit.Degree(c)
				greatest, most = max(greatest, degree), max(most, len(s.Copies))
				tied[len(c.Equal)]++
			})
			// One of the shapes has room at the least size alone.
			want := 13
			if k == 3 {
				want++
			}
			if count != want || greatest != api.MaxDegree || most < 20 || len(tied) != 9 {
				t.Errorf("%d shapes on %d of the size %d, degrees to %d, %d copies, %v tied", count, curve, k, greatest, most, tied)
			}
		}
	}
}

func TestTheSameIsDrawnAgain(t *testing.T) {
	seen := map[int]int{}
	for seed := range uint64(20) {
		c, s := Drawn(seed, 0, 3)
		again, filled := Drawn(seed, 0, 3)
		if !reflect.DeepEqual(c, again) || !reflect.DeepEqual(s, filled) {
			t.Errorf("the seed %d draws another circuit", seed)
		}
		seen[len(c.Nodes)]++
	}
	if len(seen) < 5 {
		t.Errorf("one circuit is as another: %v", seen)
	}
}
