package sample

import "sigil/api"

// stream gives the same numbers at every run.
type stream uint64

func (s *stream) word() uint64 {
	*s += 0x9e3779b97f4a7c15
	z := uint64(*s)
	z = (z ^ z>>30) * 0xbf58476d1ce4e5b9
	z = (z ^ z>>27) * 0x94d049bb133111eb
	return z ^ z>>31
}

// below: a number from 0 to n - 1.
func (s *stream) below(n int) int { return int(s.word() % uint64(n)) }

func (s *stream) elem() api.Elem { return api.Elem{s.word(), s.word(), s.word(), s.word()} }

// order: the numbers 0 to n - 1 in any order.
func (s *stream) order(n int) []int {
	list := make([]int, n)
	for i := range list {
		j := s.below(i + 1)
		list[i], list[j] = list[j], i
	}
	return list
}
