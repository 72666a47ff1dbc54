package permute

import (
	"sigil/api"
	"sigil/field"
)

// joints: what must be 0 where the products start, go on in the next chunk, and end.
func joints(sort int, s api.Spot, zs []api.Chunk) []api.Elem {
	list := []api.Elem{field.Mul(sort, s.First, field.Sub(sort, api.Elem{1}, zs[0].At))}
	for ahead, z := range zs[1:] {
		list = append(list, field.Mul(sort, s.First, field.Sub(sort, z.At, zs[ahead].Last)))
	}
	end := zs[len(zs)-1].At
	return append(list, field.Mul(sort, s.Last, field.Sub(sort, field.Mul(sort, end, end), end)))
}

// steps: what must be 0 from one usable row to the next, chunk by chunk.
func (a argument) steps(s api.Spot, cols, sigmas []api.Elem, zs []api.Chunk) []api.Elem {
	cells := a.cells(s.X, cols, sigmas)
	list := make([]api.Elem, len(zs))
	for i, z := range zs {
		part := chunk(cells, i)
		next, at := field.Mul(a.sort, z.Next, a.byNext(part)), field.Mul(a.sort, z.At, a.byOwn(part))
		list[i] = field.Mul(a.sort, s.Usable, field.Sub(a.sort, next, at))
	}
	return list
}
