package label_test

import (
	"math"
	"math/big"
	"testing"

	"sigil/api"
	"sigil/field"
	"sigil/label"
)

// fields: the moduli and the 2-adicities of the fields, as the document says them.
var fields = []struct {
	modulus string
	adicity int
}{
	{"16513537", 9},
	{"16521217", 11},
	{"0x40000000000000000000000000000000224698fc094cf91b992d30ed00000001", 32},
	{"0x40000000000000000000000000000000224698fc0994a8dd8c46eb2100000001", 32},
}

// Each start is 5^(2^s i), s the 2-adicity, by math/big.
func TestStarts(t *testing.T) {
	for sort, f := range fields {
		m, _ := new(big.Int).SetString(f.modulus, 0)
		for places := range 40 {
			starts, e := label.Starts(sort, places)
			if e != api.OK || len(starts) != places {
				t.Fatal(sort, places, starts, e)
			}
			for i, got := range starts {
				power := new(big.Int).Lsh(big.NewInt(int64(i)), uint(f.adicity))
				want := new(big.Int).Exp(big.NewInt(5), power, m)
				b := field.Encode(sort, got)
				for at := range 16 {
					b[at], b[31-at] = b[31-at], b[at]
				}
				if new(big.Int).SetBytes(b).Cmp(want) != 0 {
					t.Errorf("in the field of sort %d the place %d starts at %v, not %v", sort, i, got, want)
				}
			}
		}
	}
}

func TestStartsRefuses(t *testing.T) {
	for _, sort := range []int{-1, 4, 5, -4, math.MinInt, math.MaxInt, 1 << 32} {
		for _, places := range []int{0, 1, 8} {
			if starts, e := label.Starts(sort, places); len(starts) != 0 || e != api.ErrSort {
				t.Errorf("Starts(%d, %d): %v, %d", sort, places, starts, e)
			}
		}
	}
}

func TestStartsAreNewMemory(t *testing.T) {
	first, _ := label.Starts(0, 3)
	first[1] = api.Elem{77}
	if second, _ := label.Starts(0, 3); second[1] == first[1] {
		t.Error("two answers share memory")
	}
}
