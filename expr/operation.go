package expr

import (
	"sigil/api"
	"sigil/field"
)

// highest is the degree that is told of all above it, for products of products soon have more than an int can hold.
const highest = 1000

// operation is what a node does, given what is known of all the nodes ahead of it.
type operation interface {
	degree(ahead []int) int
	value(s setting, ahead []api.Elem) api.Elem
}

// user is an operation that uses a node.
type user interface {
	first() int
}

// pair is an operation that uses a second node too.
type pair interface {
	user
	second() int
}

// operationOf: what a node does, and whether there is such an operation.
func operationOf(n api.Node) (operation, bool) {
	one := single{n.A}
	two := double{one, n.B}
	switch n.Op {
	case api.OpConst:
		return constant{n.V}, true
	case api.OpFixed, api.OpAdvice, api.OpInstance:
		return query{api.Query{Kind: n.Op, Col: n.A, Rot: n.B}}, true
	case api.OpNeg:
		return negation{one}, true
	case api.OpAdd:
		return sum{two}, true
	case api.OpMul:
		return product{two}, true
	case api.OpScale:
		return multiple{one, n.V}, true
	}
	return nil, false
}

// uses: the places of the nodes that an operation uses.
func uses(o operation) []int {
	switch o.(type) {
	case constant, query:
		return nil
	}
	// All others use a node at least.
	a := o.(user).first()
	if p, ok := o.(pair); ok {
		return []int{a, p.second()}
	}
	return []int{a}
}

// setting is what values hang on: the field, and the number that each query has.
type setting struct {
	sort int
	at   map[api.Query]api.Elem
}

// settingOf: the setting of queries and their numbers, which are as many. A query that is there twice has its first number.
func settingOf(sort int, queries []api.Query, at []api.Elem) setting {
	s := setting{sort, make(map[api.Query]api.Elem, len(queries))}
	for i, q := range queries {
		if !s.has(q) {
			s.at[q] = at[i]
		}
	}
	return s
}

// has: has a query a number?
func (s setting) has(q api.Query) bool {
	_, ok := s.at[q]
	return ok
}

// element: the number that v stands for.
func (s setting) element(v api.Elem) api.Elem { return field.Add(s.sort, v, api.Elem{}) }

// single is what operations on one node have.
type single struct{ a int }

func (n single) first() int { return n.a }

// double is what operations on two nodes have.
type double struct {
	single
	b int
}

func (n double) second() int { return n.b }

type constant struct{ v api.Elem }

func (n constant) degree([]int) int { return 0 }

func (n constant) value(s setting, _ []api.Elem) api.Elem { return s.element(n.v) }

type query struct{ api.Query }

func (n query) degree([]int) int { return 1 }

func (n query) value(s setting, _ []api.Elem) api.Elem { return s.element(s.at[n.Query]) }

// fits: is it a query of one of so many columns, and not of too many rows?
func (n query) fits(columns int) bool {
	return n.Col >= 0 && n.Col < columns && n.Rot >= -api.MaxRot && n.Rot <= api.MaxRot
}

type negation struct{ single }

func (n negation) degree(ahead []int) int { return ahead[n.a] }

func (n negation) value(s setting, ahead []api.Elem) api.Elem { return field.Neg(s.sort, ahead[n.a]) }

type sum struct{ double }

func (n sum) degree(ahead []int) int { return max(ahead[n.a], ahead[n.b]) }

func (n sum) value(s setting, ahead []api.Elem) api.Elem {
	return field.Add(s.sort, ahead[n.a], ahead[n.b])
}

type product struct{ double }

func (n product) degree(ahead []int) int { return min(ahead[n.a]+ahead[n.b], highest) }

func (n product) value(s setting, ahead []api.Elem) api.Elem {
	return field.Mul(s.sort, ahead[n.a], ahead[n.b])
}

type multiple struct {
	single
	v api.Elem
}

func (n multiple) degree(ahead []int) int { return ahead[n.a] }

func (n multiple) value(s setting, ahead []api.Elem) api.Elem {
	return field.Mul(s.sort, n.v, ahead[n.a])
}
