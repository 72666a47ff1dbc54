package tape

import (
	"sigil/api"
	"sigil/blake"
	"sigil/field"
)

const (
	person      = "sigil-transcript"
	digestBytes = 64
)

// mark is the byte ahead of what the hash takes, by which one kind isn't taken for another.
type mark byte

const (
	challengeMark mark = iota
	pointMark
	scalarMark
)

// giver is what gives challenges. It takes all that is said.
type giver interface {
	take(m mark, b []byte)
	give() (api.Elem, api.Errno)
}

// giverOf: what gives challenges of that sort, of a source that check has passed.
func giverOf(sort int, s api.Source) giver {
	if s.Mode == api.FromTape {
		return &script{sort: sort, list: Purse(s.Tape)}
	}
	// A person of 16 bytes and a digest of 64 aren't refused.
	d, _ := blake.New(person, digestBytes)
	return &hash{sort: sort, digest: d}
}

// hash gives challenges that hang on all that was said.
type hash struct {
	sort   int
	digest *blake.Digest
}

func (h *hash) take(m mark, b []byte) {
	h.digest.Write([]byte{byte(m)})
	h.digest.Write(b)
}

func (h *hash) give() (api.Elem, api.Errno) {
	// What is taken here stays taken: two challenges behind one another aren't the same.
	h.take(challengeMark, nil)
	return field.Wide(h.sort, h.digest.Sum())
}

// script gives the challenges of a tape, whatever was said.
type script struct {
	sort int
	list *Coins
}

func (s *script) take(mark, []byte) {}

func (s *script) give() (api.Elem, api.Errno) {
	v, wrong := s.list.Next()
	if wrong != api.OK {
		return api.Elem{}, wrong
	}
	return field.Add(s.sort, v, api.Elem{}), api.OK
}
