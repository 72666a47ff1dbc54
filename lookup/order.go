package lookup

import (
	"slices"

	"sigil/api"
	"sigil/field"
	"sigil/word"
)

// rising: the elements that the numbers stand for, in order.
func rising(sort int, list []api.Elem) []api.Elem {
	ordered := make([]api.Elem, len(list))
	for i, v := range list {
		ordered[i] = field.Add(sort, v, api.Elem{})
	}
	slices.SortFunc(ordered, compare)
	return ordered
}

// compare: which of two numbers is the lesser one?
func compare(a, b api.Elem) int {
	switch {
	case word.Less(a, b):
		return -1
	case word.Less(b, a):
		return 1
	}
	return 0
}

// isFirst: is it the first one of its value?
func isFirst(sorted []api.Elem, place int) bool {
	return place == 0 || sorted[place] != sorted[place-1]
}

// without: what is left of the tables, when one of each value of the sorted inputs is taken away, and whether all of these are there. The tables' memory is used up.
func without(tables, sorted []api.Elem) ([]api.Elem, bool) {
	for i, v := range sorted {
		if !isFirst(sorted, i) {
			continue
		}
		at := slices.Index(tables, v)
		if at < 0 {
			return nil, false
		}
		tables = slices.Delete(tables, at, at+1)
	}
	return tables, true
}

// match: the first one of each value beside itself, and what is left of the tables beside the others, of which there are as many.
func match(sorted, left []api.Elem) []api.Elem {
	matched := make([]api.Elem, len(sorted))
	for i, v := range sorted {
		if isFirst(sorted, i) {
			matched[i] = v
			continue
		}
		matched[i], left = left[0], left[1:]
	}
	return matched
}
