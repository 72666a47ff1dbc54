package step

import (
	"testing"

	"sigil/api"
)

// given: what some steps give up with; nil, if they don't.
func given(steps func()) (what any) {
	defer func() { what = recover() }()
	steps()
	return nil
}

func TestRefuse(t *testing.T) {
	for _, wrong := range []api.Errno{api.ErrZero, api.ErrTape, api.ErrScript, -1} {
		what, ok := given(func() { Refuse(wrong) }).(Refusal)
		if !ok || what.Errno != wrong {
			t.Errorf("Refuse(%d) gives up with %v", wrong, what)
		}
		what, ok = given(func() { Done(wrong) }).(Refusal)
		if !ok || what.Errno != wrong {
			t.Errorf("Done(%d) gives up with %v", wrong, what)
		}
		what, ok = given(func() { Must(7, wrong) }).(Refusal)
		if !ok || what.Errno != wrong {
			t.Errorf("Must of %d gives up with %v", wrong, what)
		}
	}
}

func TestDone(t *testing.T) {
	if what := given(func() { Done(api.OK) }); what != nil {
		t.Errorf("Done gives up with %v", what)
	}
}

func TestMust(t *testing.T) {
	if got := Must("answer", api.OK); got != "answer" {
		t.Errorf("%q", got)
	}
	if got := Must(api.Elem{1, 2, 3, 4}, api.OK); got != (api.Elem{1, 2, 3, 4}) {
		t.Errorf("%v", got)
	}
}
