package field

import (
	"sigil/api"
	"sigil/word"
)

const (
	wordBytes = 8
	elemBytes = 4 * wordBytes
	wideBytes = 2 * elemBytes
)

// Encode: an element's bytes.
func Encode(sort int, a api.Elem) []byte {
	m, ok := modulus(sort)
	if !ok {
		return nil
	}
	e := element(m, a).elem()
	out := make([]byte, elemBytes)
	for i := range out {
		out[i] = byte(e[i/wordBytes] >> (i % wordBytes * 8))
	}
	return out
}

// Decode: the element of bytes.
func Decode(sort int, b []byte) (api.Elem, api.Errno) {
	m, ok := modulus(sort)
	if !ok {
		return api.Elem{}, api.ErrSort
	}
	if len(b) != elemBytes {
		return api.Elem{}, api.ErrCodec
	}
	e := littleEndian(b)
	if !isBelow(numberOf(e), m) {
		return api.Elem{}, api.ErrCodec
	}
	return e, api.OK
}

// Wide: the element of 64 bytes.
func Wide(sort int, b []byte) (api.Elem, api.Errno) {
	m, ok := modulus(sort)
	if !ok {
		return api.Elem{}, api.ErrSort
	}
	if len(b) != wideBytes {
		return api.Elem{}, api.ErrCodec
	}
	return word.Rem(littleEndian(b[:elemBytes]), littleEndian(b[elemBytes:]), m.elem())
}

// littleEndian: the number of 32 bytes, the one of the least weight first.
func littleEndian(b []byte) api.Elem {
	var e api.Elem
	for i, v := range b {
		e[i/wordBytes] |= uint64(v) << (i % wordBytes * 8)
	}
	return e
}
