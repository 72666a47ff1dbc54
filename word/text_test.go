package word

import (
	"strings"
	"testing"

	"sigil/api"
)

const (
	greatestText = "115792089237316195423570985008687907853269984665640564039457584007913129639935"
	tooGreatText = "115792089237316195423570985008687907853269984665640564039457584007913129639936"
)

func TestShow(t *testing.T) {
	for _, a := range edges(t) {
		if got, want := Show(a), bigOf(a[:]...).Text(10); got != want {
			t.Errorf("Show(%v): %q, not %q", a, got, want)
		}
	}
	s := stream(4)
	for range 5000 {
		a := s.elem()
		if got, want := Show(a), bigOf(a[:]...).Text(10); got != want {
			t.Errorf("Show(%v): %q, not %q", a, got, want)
		}
	}
	if got := Show(api.Elem{}); got != "0" {
		t.Errorf("0: %q", got)
	}
	if got := Show(greatest); got != greatestText || len(got) != 78 {
		t.Errorf("the greatest: %q", got)
	}
}

func TestHex(t *testing.T) {
	for _, a := range edges(t) {
		if got, want := Hex(a), "0x"+bigOf(a[:]...).Text(16); got != want {
			t.Errorf("Hex(%v): %q, not %q", a, got, want)
		}
	}
	s := stream(5)
	for range 5000 {
		a := s.elem()
		if got, want := Hex(a), "0x"+bigOf(a[:]...).Text(16); got != want {
			t.Errorf("Hex(%v): %q, not %q", a, got, want)
		}
	}
	for want, a := range map[string]api.Elem{"0x0": {}, "0xff": {255}, "0x10000000000000000": {0, 1}, "0x" + strings.Repeat("f", 64): greatest} {
		if got := Hex(a); got != want {
			t.Errorf("Hex(%v): %q", a, got)
		}
	}
}

func TestParseReadsWhatIsShown(t *testing.T) {
	s := stream(6)
	list := edges(t)
	for range 5000 {
		list = append(list, s.elem())
	}
	for _, a := range list {
		for _, text := range []string{Show(a), Hex(a), "0x" + strings.ToUpper(Hex(a)[2:]), "00" + Show(a)} {
			if got, e := Parse(text); got != a || e != api.OK {
				t.Errorf("Parse(%q): %v %d", text, got, e)
			}
		}
	}
}

// wideDigits: a text with wide digits for the narrow ones.
func wideDigits(s string) string {
	return strings.Map(func(r rune) rune {
		if '0' <= r && r <= '9' {
			return r - '0' + '\uff10'
		}
		return r
	}, s)
}

func TestParseNumbers(t *testing.T) {
	for s, want := range map[string]api.Elem{
		"0":                             {},
		"0x0":                           {},
		"00":                            {},
		"007":                           {7},
		"0x007":                         {7},
		"0_7":                           {7},
		"1_000":                         {1000},
		"1_0_0_0":                       {1000},
		"1_000_000":                     {1000000},
		"0xfF":                          {255},
		"0xf_F":                         {255},
		"0xAbCdEf":                      {0xabcdef},
		"0x0123456789":                  {0x123456789},
		"9876543210":                    {9876543210},
		wideDigits("12"):                {12},
		wideDigits("9876543210"):        {9876543210},
		"1" + wideDigits("2") + "3":     {123},
		wideDigits("1_0"):               {10},
		"0x" + wideDigits("1") + "a":    {26},
		"0x" + wideDigits("0123456789"): {0x123456789},
		"18446744073709551615":          {1<<64 - 1},
		"18446744073709551616":          {0, 1},
		greatestText:                    greatest,
		wideDigits(greatestText):        greatest,
		"000" + greatestText:            greatest,
		"0x" + strings.Repeat("f", 64):  greatest,
		"0x0" + strings.Repeat("F", 64): greatest,
	} {
		if got, e := Parse(s); got != want || e != api.OK {
			t.Errorf("Parse(%q): %v %d", s, got, e)
		}
	}
}

func TestParseNoDigits(t *testing.T) {
	for _, s := range []string{
		"", "_", "__", "_1", "1_", "1__0", "1_0_", "_0x1", "0_x1", "0x_", "0x_1", "0x1_", "0x1__1", "0x",
		"x", "x1", "0X1", "0xx1", "00x1", "10x1", "0x0x1", "\uff10x1", "0\uff381", "0x-1", "0xg", "0xG", "0x`", "0x@",
		"a", "f", "1a", "A", "1F", "/", ":", "-1", "+1", "-0", "1.0", "1,000", "1e3", "0b1", "0o7", " 1", "1 ", "1\n", "1\x00", "\x001",
		"\uff0f", "\uff1a", "0x\uff41", "0x\uff21", "\u0661", "\u00b2", "\u0967", "1\uff3f0", "\ufffd", "\u00e9", "\U0001d7ce",
		"\xff", "1\xff", "\xff1", "1\x80", "0x\xc3", "\xef\xbc", "1\xef\xbc", "\xef\xbc\x901\xef", "\xed\xa0\x80", "1_\xff",
	} {
		if got, e := Parse(s); got != (api.Elem{}) || e != api.ErrDigit {
			t.Errorf("Parse(%q): %v %d", s, got, e)
		}
	}
}

func TestParseTooGreat(t *testing.T) {
	for _, s := range []string{
		tooGreatText,
		wideDigits(tooGreatText),
		"00" + tooGreatText,
		greatestText + "0",
		strings.Repeat("9", 78),
		"0x1" + strings.Repeat("0", 64),
		"0x1_" + strings.Repeat("0", 64),
		"0x" + strings.Repeat("f", 65),
		// What is above 2^256 mustn't come round to a small number.
		"0x1" + strings.Repeat("0", 63) + "_" + strings.Repeat("0", 200) + "1",
	} {
		if got, e := Parse(s); got != (api.Elem{}) || e != api.ErrLarge {
			t.Errorf("Parse(%q): %v %d", s, got, e)
		}
	}
	for _, s := range []string{tooGreatText + "x", tooGreatText + "_", strings.Repeat("9", 90) + "\xff", "0x" + strings.Repeat("f", 65) + "g"} {
		if got, e := Parse(s); got != (api.Elem{}) || e != api.ErrDigit {
			t.Errorf("a number that is too great, and no digit behind it: Parse(%q): %v %d", s, got, e)
		}
	}
}

func TestParseLongTexts(t *testing.T) {
	for _, c := range []struct {
		name, text string
		want       api.Elem
		e          api.Errno
	}{
		{"noughts", strings.Repeat("0", api.MaxText), api.Elem{}, api.OK},
		{"noughts ahead", strings.Repeat("0", api.MaxText-1) + "7", api.Elem{7}, api.OK},
		{"hexadecimal", "0x" + strings.Repeat("0", api.MaxText-3) + "a", api.Elem{10}, api.OK},
		{"bytes, not runes", strings.Repeat("\uff10", api.MaxText/3) + "1", api.Elem{1}, api.OK},
		{"a number that is too great", strings.Repeat("9", api.MaxText), api.Elem{}, api.ErrLarge},
		{"no digit at the end", strings.Repeat("9", api.MaxText-1) + "x", api.Elem{}, api.ErrDigit},
		{"a byte too many", strings.Repeat("0", api.MaxText+1), api.Elem{}, api.ErrLarge},
		{"a byte too many, and not digits", strings.Repeat("x", api.MaxText+1), api.Elem{}, api.ErrLarge},
		{"a byte too many, in fewer runes", strings.Repeat("\uff10", api.MaxText/3) + "00", api.Elem{}, api.ErrLarge},
		{"just so many, and not digits", strings.Repeat("x", api.MaxText), api.Elem{}, api.ErrDigit},
	} {
		if got, e := Parse(c.text); got != c.want || e != c.e {
			t.Errorf("%s: %v %d", c.name, got, e)
		}
	}
}
