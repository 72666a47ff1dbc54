package keys

import (
	"fmt"
	"math"
	"math/big"
	"reflect"
	"slices"
	"strings"
	"testing"

	"sigil/api"
	"sigil/blake"
	"sigil/circuit"
	"sigil/curve"
	"sigil/params"
	"sigil/sheet"
)

var greatest = api.Elem{math.MaxUint64, math.MaxUint64, math.MaxUint64, math.MaxUint64}

// wrongSorts: numbers that are no field's, and no curve's.
var wrongSorts = []int{-1, 4, -2, 5, 256, 257, -4, math.MinInt, math.MaxInt, 1 << 32, 1<<32 + 1, -1 << 32}

// wrongSizes: numbers that are no size of a sheet, and no key's K.
var wrongSizes = []int{2, 6, 1, 0, 7, -1, -3, 30, 31, 62, 63, 64, 67, 256 + 3, 1<<32 + 3, math.MinInt, math.MaxInt}

// far: numbers that are no place's, no column's, no row's and no kind's.
var far = []int{-1, -2, -64, -1 << 32, math.MinInt, math.MinInt + 1, math.MaxInt, math.MaxInt - 1, 1 << 31, 1 << 32, 1<<32 + 1, 1<<32 + 3}

// modulusOf: a field's modulus, as the document says it.
func modulusOf(sort int) *big.Int {
	n, ok := new(big.Int).SetString([]string{
		"16513537",
		"16521217",
		"0x40000000000000000000000000000000224698fc094cf91b992d30ed00000001",
		"0x40000000000000000000000000000000224698fc0994a8dd8c46eb2100000001",
	}[sort], 0)
	if !ok {
		panic(sort)
	}
	return n
}

// adicities: of the fields, by their sorts.
var adicities = []int{9, 11, 32, 32}

// bigOf: the number as math/big has it, for answers worked out another way.
func bigOf(e api.Elem) *big.Int {
	n := new(big.Int)
	for i := len(e) - 1; i >= 0; i-- {
		n.Lsh(n, 64).Or(n, new(big.Int).SetUint64(e[i]))
	}
	return n
}

// elemOf: a number from 0 to 2^256 - 1.
func elemOf(n *big.Int) api.Elem {
	if n.Sign() < 0 || n.BitLen() > 256 {
		panic(n.String())
	}
	var e api.Elem
	for i := range e {
		e[i] = new(big.Int).And(new(big.Int).Rsh(n, uint(64*i)), bigOf(api.Elem{math.MaxUint64})).Uint64()
	}
	return e
}

// beside: a small number, and the modulus so often.
func beside(sort, small, often int) api.Elem {
	n := new(big.Int).Mul(modulusOf(sort), big.NewInt(int64(often)))
	return elemOf(n.Add(n, big.NewInt(int64(small))))
}

// column: a column of small numbers.
func column(list ...int) []api.Elem {
	var out []api.Elem
	for _, n := range list {
		out = append(out, api.Elem{uint64(n)})
	}
	return out
}

func at(col, row int) api.Cell { return api.Cell{Col: col, Row: row} }

// tiedBy: the cells that copies tie with a cell, itself too, by Col, then Row.
func tiedBy(copies []api.Copy, c api.Cell) []api.Cell {
	beside := map[api.Cell][]api.Cell{}
	for _, p := range copies {
		beside[p.A], beside[p.B] = append(beside[p.A], p.B), append(beside[p.B], p.A)
	}
	list, met := []api.Cell{c}, map[api.Cell]bool{c: true}
	for i := 0; i < len(list); i++ {
		for _, other := range beside[list[i]] {
			if !met[other] {
				list, met[other] = append(list, other), true
			}
		}
	}
	slices.SortFunc(list, func(a, b api.Cell) int { return 1000*(a.Col-b.Col) + a.Row - b.Row })
	return list
}

// nextBy: Next by the document's words.
func nextBy(c api.Circuit, k int, s api.Sheet) ([][]api.Cell, api.Errno) {
	if wrong := sheet.Fit(c, k, s); wrong != 0 {
		return nil, wrong
	}
	var next [][]api.Cell
	for col := range c.Equal {
		var list []api.Cell
		for row := range 1 << k {
			tied := tiedBy(s.Copies, at(col, row))
			behind := slices.Index(tied, at(col, row)) + 1
			if behind == len(tied) {
				behind = 0
			}
			list = append(list, tied[behind])
		}
		next = append(next, list)
	}
	return next, 0
}

// powerBy: a to the power e, modulo the modulus.
func powerBy(sort int, a, e *big.Int) *big.Int { return new(big.Int).Exp(a, e, modulusOf(sort)) }

// rootBy: the domain's second point.
func rootBy(sort, k int) *big.Int {
	e := new(big.Int).Sub(modulusOf(sort), big.NewInt(1))
	return powerBy(sort, big.NewInt(5), e.Rsh(e, uint(k)))
}

// labelBy: the label of a cell by the document's words.
func labelBy(sort, k int, c api.Cell) api.Elem {
	d := powerBy(sort, big.NewInt(5), new(big.Int).Lsh(big.NewInt(1), uint(adicities[sort])))
	label := powerBy(sort, d, big.NewInt(int64(c.Col)))
	label.Mul(label, powerBy(sort, rootBy(sort, k), big.NewInt(int64(c.Row))))
	return elemOf(label.Mod(label, modulusOf(sort)))
}

// columnsBy: Columns by the document's words.
func columnsBy(sort int, c api.Circuit, k int, s api.Sheet) ([][]api.Elem, [][]api.Elem, api.Errno) {
	if sort < 0 || sort > 3 {
		return nil, nil, 20
	}
	next, wrong := nextBy(c, k, s)
	if wrong != 0 {
		return nil, nil, wrong
	}
	var fixed, sigma [][]api.Elem
	for col := range c.Fixed {
		var values []api.Elem
		for row := range 1 << k {
			v := bigOf(sheet.At(s, api.OpFixed, col, row))
			values = append(values, elemOf(v.Mod(v, modulusOf(sort))))
		}
		fixed = append(fixed, values)
	}
	for _, cells := range next {
		var labels []api.Elem
		for _, cell := range cells {
			labels = append(labels, labelBy(sort, k, cell))
		}
		sigma = append(sigma, labels)
	}
	return fixed, sigma, 0
}

// commitmentBy: the commitment, with the blind 1, to the polynomial that has those values.
func commitmentBy(p api.Params, values []api.Elem) api.Point {
	sort := p.Curve ^ 1
	m := modulusOf(sort)
	back := new(big.Int).ModInverse(rootBy(sort, p.K), m)
	sum := p.W
	for power := range values {
		coeff := new(big.Int)
		for i, v := range values {
			coeff.Add(coeff, new(big.Int).Mul(bigOf(v), powerBy(sort, back, big.NewInt(int64(power*i)))))
		}
		coeff.Mul(coeff, new(big.Int).ModInverse(big.NewInt(int64(len(values))), m)).Mod(coeff, m)
		sum = curve.Add(p.Curve, sum, curve.Mul(p.Curve, elemOf(coeff), p.G[power]))
	}
	return sum
}

// makeBy: Make by the document's words.
func makeBy(p api.Params, c api.Circuit, s api.Sheet) (api.Vkey, api.Errno) {
	if wrong := params.Check(p); wrong != 0 {
		return api.Vkey{}, wrong
	}
	fixed, sigma, wrong := columnsBy(p.Curve^1, c, p.K, s)
	if wrong != 0 {
		return api.Vkey{}, wrong
	}
	v := api.Vkey{Curve: p.Curve, K: p.K, Circuit: c}
	for _, values := range fixed {
		v.Fixed = append(v.Fixed, commitmentBy(p, values))
	}
	for _, values := range sigma {
		v.Sigma = append(v.Sigma, commitmentBy(p, values))
	}
	return v, 0
}

// checkBy: Check by the document's words.
func checkBy(v api.Vkey) api.Errno {
	c := v.Circuit
	if v.Curve < 0 || v.Curve > 3 || v.K < 3 || v.K > 5 || circuit.Check(c) != 0 || len(v.Fixed) != c.Fixed || len(v.Sigma) != len(c.Equal) {
		return 150
	}
	for _, p := range slices.Concat(v.Fixed, v.Sigma) {
		if !curve.On(v.Curve, p) {
			return 150
		}
	}
	return 0
}

// names: which of A, B and V an Op names.
var names = map[int]string{1: "V", 2: "AB", 3: "AB", 4: "AB", 5: "A", 6: "AB", 7: "AB", 8: "AV"}

// plainBy: the key as Decode answers it: with all that an Op doesn't name 0, and each V below the modulus.
func plainBy(v api.Vkey) api.Vkey {
	v = cloned(v)
	for i := range v.Circuit.Nodes {
		n := &v.Circuit.Nodes[i]
		if !strings.Contains(names[n.Op], "A") {
			n.A = 0
		}
		if !strings.Contains(names[n.Op], "B") {
			n.B = 0
		}
		if !strings.Contains(names[n.Op], "V") {
			n.V = api.Elem{}
		}
		n.V = elemOf(new(big.Int).Mod(bigOf(n.V), modulusOf(v.Curve^1)))
	}
	return v
}

// rawBy: the bytes of a key by the document's words, with its nodes' numbers as they stand.
func rawBy(v api.Vkey) []byte {
	c := v.Circuit
	b := []byte{byte(v.Curve), byte(v.K), byte(c.Fixed), byte(c.Advice), byte(c.Instance), byte(len(c.Nodes))}
	for _, n := range c.Nodes {
		if n.B < 0 {
			n.B += 256
		}
		b = append(b, byte(n.Op), byte(n.A), byte(n.B))
		number := bigOf(n.V).FillBytes(make([]byte, 32))
		slices.Reverse(number)
		b = append(b, number...)
	}
	b = append(b, byte(len(c.Gates)))
	for _, place := range c.Gates {
		b = append(b, byte(place))
	}
	b = append(b, byte(len(c.Lookups)))
	for _, l := range c.Lookups {
		b = append(b, byte(len(l.Inputs)))
		for _, place := range slices.Concat(l.Inputs, l.Tables) {
			b = append(b, byte(place))
		}
	}
	b = append(b, byte(len(c.Equal)))
	for _, e := range c.Equal {
		b = append(b, byte(e.Kind), byte(e.Col))
	}
	for _, p := range slices.Concat(v.Fixed, v.Sigma) {
		b = append(b, curve.Encode(v.Curve, p)...)
	}
	return b
}

// encodeBy: Encode by the document's words.
func encodeBy(v api.Vkey) ([]byte, api.Errno) {
	if wrong := checkBy(v); wrong != 0 {
		return nil, wrong
	}
	return rawBy(plainBy(v)), 0
}

// reading is bytes that are read one by one, and whether one was missing.
type reading struct {
	b     []byte
	short bool
}

func (r *reading) next() int {
	if len(r.b) == 0 {
		r.short = true
		return 0
	}
	n := int(r.b[0])
	r.b = r.b[1:]
	return n
}

func (r *reading) list(count int) []int {
	var list []int
	for range count {
		list = append(list, r.next())
	}
	return list
}

// encoded: the next 32 bytes.
func (r *reading) encoded() []byte {
	var b []byte
	for _, n := range r.list(32) {
		b = append(b, byte(n))
	}
	return b
}

func (r *reading) points(c, count int) []api.Point {
	var list []api.Point
	for range count {
		p, wrong := curve.Decode(c, r.encoded())
		r.short = r.short || wrong != 0
		list = append(list, p)
	}
	return list
}

// decodeBy: Decode by the document's words: what the bytes tell is the key, if it is right and its bytes are these.
func decodeBy(b []byte) (api.Vkey, api.Errno) {
	r := reading{b: b}
	first := r.list(6)
	v := api.Vkey{Curve: first[0], K: first[1], Circuit: api.Circuit{Fixed: first[2], Advice: first[3], Instance: first[4]}}
	for range first[5] {
		three, number := r.list(3), r.encoded()
		if three[2] > 127 {
			three[2] -= 256
		}
		slices.Reverse(number)
		v.Circuit.Nodes = append(v.Circuit.Nodes, api.Node{Op: three[0], A: three[1], B: three[2], V: elemOf(new(big.Int).SetBytes(number))})
	}
	v.Circuit.Gates = r.list(r.next())
	for range r.next() {
		width := r.next()
		v.Circuit.Lookups = append(v.Circuit.Lookups, api.Lookup{Inputs: r.list(width), Tables: r.list(width)})
	}
	for range r.next() {
		two := r.list(2)
		v.Circuit.Equal = append(v.Circuit.Equal, api.Column{Kind: two[0], Col: two[1]})
	}
	v.Fixed, v.Sigma = r.points(v.Curve, v.Circuit.Fixed), r.points(v.Curve, len(v.Circuit.Equal))
	if r.short || len(r.b) > 0 {
		return api.Vkey{}, 150
	}
	if again, wrong := encodeBy(v); wrong != 0 || !slices.Equal(again, b) {
		return api.Vkey{}, 150
	}
	return v, 0
}

// digestBy: Digest by the document's words.
func digestBy(v api.Vkey) (api.Elem, api.Errno) {
	b, wrong := encodeBy(v)
	if wrong != 0 {
		return api.Elem{}, wrong
	}
	digest, wrong := blake.Sum("sigil-vkey", 64, b)
	slices.Reverse(digest)
	n := new(big.Int).SetBytes(digest)
	return elemOf(n.Mod(n, modulusOf(v.Curve^1))), wrong
}

// sameCircuit: are they the same? A nil list and an empty one are.
func sameCircuit(a, b api.Circuit) bool {
	return a.Fixed == b.Fixed && a.Advice == b.Advice && a.Instance == b.Instance &&
		slices.Equal(a.Nodes, b.Nodes) && slices.Equal(a.Gates, b.Gates) && slices.Equal(a.Equal, b.Equal) &&
		slices.EqualFunc(a.Lookups, b.Lookups, func(l, m api.Lookup) bool {
			return slices.Equal(l.Inputs, m.Inputs) && slices.Equal(l.Tables, m.Tables)
		})
}

func same(a, b api.Vkey) bool {
	return a.Curve == b.Curve && a.K == b.K && sameCircuit(a.Circuit, b.Circuit) && slices.Equal(a.Fixed, b.Fixed) && slices.Equal(a.Sigma, b.Sigma)
}

// isNothing: is it a key without anything?
func isNothing(v api.Vkey) bool { return same(v, api.Vkey{}) }

func sameCells(a, b [][]api.Cell) bool { return slices.EqualFunc(a, b, slices.Equal) }

func sameColumns(a, b [][]api.Elem) bool { return slices.EqualFunc(a, b, slices.Equal) }

// clonedCircuit: the same circuit in memory of its own.
func clonedCircuit(c api.Circuit) api.Circuit {
	c.Nodes, c.Gates, c.Lookups, c.Equal = slices.Clone(c.Nodes), slices.Clone(c.Gates), slices.Clone(c.Lookups), slices.Clone(c.Equal)
	for i, l := range c.Lookups {
		c.Lookups[i] = api.Lookup{Inputs: slices.Clone(l.Inputs), Tables: slices.Clone(l.Tables)}
	}
	return c
}

// cloned: the same key in memory of its own.
func cloned(v api.Vkey) api.Vkey {
	v.Circuit, v.Fixed, v.Sigma = clonedCircuit(v.Circuit), slices.Clone(v.Fixed), slices.Clone(v.Sigma)
	return v
}

// clonedSheet: the same sheet in memory of its own.
func clonedSheet(s api.Sheet) api.Sheet {
	for _, columns := range []*[][]api.Elem{&s.Fixed, &s.Advice, &s.Instance} {
		*columns = slices.Clone(*columns)
		for i, values := range *columns {
			(*columns)[i] = slices.Clone(values)
		}
	}
	s.Copies = slices.Clone(s.Copies)
	return s
}

// setups: parameters that were derived already, by curve and size.
var setups = map[[2]int]api.Params{}

func setup(c, k int) api.Params {
	p, met := setups[[2]int{c, k}]
	if !met {
		var wrong api.Errno
		if p, wrong = params.Setup(c, k, []byte("keys")); wrong != 0 {
			panic(wrong)
		}
		setups[[2]int{c, k}] = p
	}
	p.G = slices.Clone(p.G)
	return p
}

// least: a circuit with nothing but an advice column, and a sheet without a value.
func least() (api.Circuit, api.Sheet) {
	return api.Circuit{Advice: 1}, api.Sheet{Advice: make([][]api.Elem, 1)}
}

// full: a circuit with something of everything, where what an Op doesn't name stands there all the same, and a sheet that fits it.
func full() (api.Circuit, api.Sheet) {
	return api.Circuit{
		Fixed: 2, Advice: 3, Instance: 2,
		Nodes: []api.Node{
			{Op: api.OpFixed, A: 1, B: 0, V: api.Elem{9}},
			{Op: api.OpAdvice, A: 2, B: -3, V: greatest},
			{Op: api.OpInstance, A: 1, B: 3, V: api.Elem{0, 0, 0, 1}},
			{Op: api.OpConst, A: 300, B: -7, V: greatest},
			{Op: api.OpNeg, A: 1, B: 77, V: api.Elem{8}},
			{Op: api.OpAdd, A: 4, B: 2, V: api.Elem{7}},
			{Op: api.OpMul, A: 3, B: 5, V: api.Elem{6}},
			{Op: api.OpScale, A: 6, B: math.MinInt, V: api.Elem{16521217 + 5}},
			{Op: api.OpAdvice},
			{Op: api.OpConst},
		},
		Gates:   []int{7, 5, 7},
		Lookups: []api.Lookup{{Inputs: []int{8}, Tables: []int{0}}, {Inputs: []int{8, 9, 0}, Tables: []int{0, 0, 8}}},
		Equal:   []api.Column{{Kind: api.OpAdvice}, {Kind: api.OpInstance, Col: 1}, {Kind: api.OpFixed, Col: 1}, {Kind: api.OpAdvice, Col: 2}},
	}, api.Sheet{
		Fixed:    [][]api.Elem{column(7), {{1}, greatest, {16521217}, {0, 0, 0, 5}}},
		Advice:   [][]api.Elem{column(1, 2, 6), column(2, 3), nil},
		Instance: [][]api.Elem{column(6), column(5, 5, 5, 5)},
		Copies: []api.Copy{
			{A: at(0, 2), B: at(1, 0)},
			{A: at(2, 2), B: at(0, 2)},
			{A: at(3, 3), B: at(1, 3)},
			{A: at(0, 0), B: at(0, 0)},
			{A: at(1, 3), B: at(3, 3)},
		},
	}
}

// greatestOne: a circuit with as much of everything as there may be, and a sheet of the size 5 that ties all of its usable cells in one class but for the last ones.
func greatestOne() (api.Circuit, api.Sheet) {
	c := api.Circuit{Fixed: 8, Advice: 8, Instance: 8, Gates: slices.Repeat([]int{63}, 16)}
	for i := range 64 {
		c.Nodes = append(c.Nodes, api.Node{Op: 2 + i%3, A: i % 8, V: greatest})
	}
	four := []int{60, 61, 62, 63}
	c.Lookups = slices.Repeat([]api.Lookup{{Inputs: four, Tables: four}}, 4)
	for i := range 8 {
		c.Equal = append(c.Equal, api.Column{Kind: 2 + i%3, Col: 7 - i})
	}
	full := slices.Repeat([][]api.Elem{slices.Repeat([]api.Elem{greatest}, 28)}, 8)
	s := api.Sheet{Fixed: full, Advice: full, Instance: full}
	for i := range 222 {
		s.Copies = append(s.Copies, api.Copy{A: at(i%8, i/8), B: at((i+1)%8, (i+1)/8)})
	}
	for len(s.Copies) < 256 {
		s.Copies = append(s.Copies, s.Copies[0])
	}
	return clonedCircuit(c), clonedSheet(s)
}

// keyOf: the key of a circuit by the document's words, over any parameters; its points are cheap ones.
func keyOf(c, k int, of api.Circuit) api.Vkey {
	v := api.Vkey{Curve: c, K: k, Circuit: of}
	p := setup(c, 5)
	for i := range of.Fixed {
		v.Fixed = append(v.Fixed, p.G[i])
	}
	for i := range of.Equal {
		v.Sigma = append(v.Sigma, curve.Neg(c, p.G[8+i]))
	}
	return v
}

// leastKey, fullKey, greatestKey: right keys of those circuits.
func leastKey(c, k int) api.Vkey {
	of, _ := least()
	return keyOf(c, k, of)
}

func fullKey(c, k int) api.Vkey {
	of, _ := full()
	return keyOf(c, k, of)
}

func greatestKey(c, k int) api.Vkey {
	of, _ := greatestOne()
	return keyOf(c, k, of)
}

// show: a key in few words.
func show(v api.Vkey) string {
	return fmt.Sprintf("curve %d, K %d, circuit %v, %d and %d points", v.Curve, v.K, v.Circuit, len(v.Fixed), len(v.Sigma))
}

func TestTheCircuitsAreAsSaid(t *testing.T) {
	for _, of := range []func() (api.Circuit, api.Sheet){least, full, greatestOne} {
		c, s := of()
		if wrong := sheet.Fit(c, 5, s); wrong != 0 {
			t.Errorf("%v doesn't fit %v: %d", s, c, wrong)
		}
		if !reflect.DeepEqual(clonedCircuit(c), c) || !reflect.DeepEqual(clonedSheet(s), s) {
			t.Errorf("%v, %v aren't cloned", c, s)
		}
		for curve := range 4 {
			v := keyOf(curve, 4, c)
			if checkBy(v) != 0 || !reflect.DeepEqual(cloned(v), v) {
				t.Errorf("%s: isn't right, or isn't cloned", show(v))
			}
		}
	}
	c, s := full()
	if wrong := sheet.Fit(c, 3, s); wrong != 0 {
		t.Errorf("the full sheet doesn't fit at 3: %d", wrong)
	}
	if _, s := greatestOne(); len(tiedBy(s.Copies, at(3, 3))) != 223 {
		t.Errorf("%d cells are tied", len(tiedBy(s.Copies, at(3, 3))))
	}
}
