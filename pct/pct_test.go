package pct

import (
	"fmt"
	"slices"
	"strings"
	"testing"

	"gatepost/utf"
)

// named are the sets with all code points between 32 and 126 that the document names, those of the sets that they hold too.
var named = map[int]string{
	C0:        "",
	Fragment:  " \"<>`",
	Query:     " \"#<>",
	Special:   " \"#<>'",
	Path:      " \"#<>?^{}`",
	User:      " \"#<>?^{}`/:;=@[\\]|",
	Component: " \"#<>?^{}`/:;=@[\\]|$%&+,",
}

// outside are numbers below 0, above 126, at the ends of what a scalar may be, and no scalars.
var outside = []rune{
	-1 << 31, -300, -127, -97, -32, -1, 0, 31, 127, 128, 0xE9, 0xFF, 0x100, 256 + '#', 256 + 'a', 0x7FF, 0x800, 0x20AC, 0xD7FF, 0xD800, 0xDBFF, 0xDC00,
	0xDFFF, 0xE000, 0xFFFD, 0xFFFF, 0x10000, 1<<16 + 'a', 0x1F600, 0x10FFFF, 0x110000, 1<<24 + 'a', 1<<31 - 1,
}

// noSets are numbers that name no set.
var noSets = []int{0, 8, -1, -7, 15, 256 + 1, 1<<32 + 5, 1 << 62, -1 << 63, 1<<63 - 1}

// figures are all figures of base 16 that are read, with their values.
var figures = map[byte]byte{
	'0': 0, '1': 1, '2': 2, '3': 3, '4': 4, '5': 5, '6': 6, '7': 7, '8': 8, '9': 9,
	'A': 10, 'B': 11, 'C': 12, 'D': 13, 'E': 14, 'F': 15, 'a': 10, 'b': 11, 'c': 12, 'd': 13, 'e': 14, 'f': 15,
}

// numbers are those between -300 and 1000, and outside.
func numbers() []rune {
	var l []rune
	for c := rune(-300); c <= 1000; c++ {
		l = append(l, c)
	}
	return append(l, outside...)
}

// inSet is what the document says of a set of it.
func inSet(set int, c rune) bool {
	return c < 32 || c > 126 || strings.IndexByte(named[set], byte(c)) >= 0
}

// P3.1: each set has what the document names, and nothing beside it.
func TestInTellsTheSets(t *testing.T) {
	for set := range named {
		for _, c := range numbers() {
			if In(set, c) != inSet(set, c) {
				t.Errorf("set %d, %d (%q): %t", set, c, c, In(set, c))
			}
		}
	}
}

// P3.1: C0 is what is below 32, a number below 0 too, or above 126.
func TestInOfC0(t *testing.T) {
	for c, want := range map[rune]bool{-1 << 31: true, -1: true, 0: true, 31: true, 32: false, 'a': false, '%': false, 126: false, 127: true, 0xD800: true, 1<<31 - 1: true} {
		if In(C0, c) != want {
			t.Errorf("%d: %t", c, !want)
		}
	}
}

// P3.1: each set holds the one that it names, and not those beside the line.
func TestInOfSetsThatHoldOthers(t *testing.T) {
	for set, held := range map[int]int{Fragment: C0, Query: C0, Special: Query, Path: Query, User: Path, Component: User} {
		for _, c := range numbers() {
			if In(held, c) && !In(set, c) {
				t.Errorf("%d is in %d, and not in %d", c, held, set)
			}
		}
	}
	for _, set := range []int{Path, User, Component} {
		if In(set, '\'') {
			t.Errorf("' is in %d", set)
		}
	}
	if In(Fragment, '#') || In(Query, '`') || In(Special, '`') {
		t.Error("# is in Fragment, or the byte 96 in Query or Special")
	}
}

// P3.1: a number that names no set has no code point, and tells none by percent signs.
func TestNumbersThatNameNoSet(t *testing.T) {
	for _, set := range noSets {
		for _, c := range numbers() {
			if In(set, c) {
				t.Errorf("%d is in %d", c, set)
			}
		}
		if s, want := Encode(set, numbers()), utf.Encode(numbers()); s != want {
			t.Errorf("set %d: %q", set, s)
		}
	}
}

// P3.1: ordinary texts.
func TestEncodeOrdinary(t *testing.T) {
	for _, e := range []struct {
		set  int
		text string
		want string
	}{
		{Path, "a?é", "a%3F%C3%A9"},
		{C0, "a b\x00\x1f~\x7f", "a b%00%1F~%7F"},
		{Fragment, "a b#`'", "a%20b#%60'"},
		{Query, "a b#`'é", "a%20b%23`'%C3%A9"},
		{Special, "a b#`'é", "a%20b%23`%27%C3%A9"},
		{Path, "/a b/{c}^|", "/a%20b/%7Bc%7D%5E|"},
		{User, "me:you@a|b", "me%3Ayou%40a%7Cb"},
		{User, "100%+$", "100%+$"},
		{Component, "100%+$,&", "100%25%2B%24%2C%26"},
		{Component, "%41", "%2541"},
		{Component, "az-AZ_09.!~*'()", "az-AZ_09.!~*'()"},
		{C0, "\U0001F600€", "%F0%9F%98%80%E2%82%AC"},
	} {
		if s := Encode(e.set, []rune(e.text)); s != e.want {
			t.Errorf("set %d, %q: %q, and not %q", e.set, e.text, s, e.want)
		}
	}
}

// P3.1: numbers that are no scalars are told as U+FFFD is, by percent signs if they are in the set.
func TestEncodeOfNoScalars(t *testing.T) {
	for _, c := range []rune{-1 << 31, -1, 0xD800, 0xDFFF, 0x110000, 1<<31 - 1} {
		if s := Encode(C0, []rune{'a', c, 'b'}); s != "a%EF%BF%BDb" {
			t.Errorf("%x by C0: %q", c, s)
		}
		if s := Encode(0, []rune{'a', c, 'b'}); s != "a\ufffdb" {
			t.Errorf("%x by no set: %q", c, s)
		}
	}
}

// P3.1: each number alone, by each set: what utf.Encode tells of it, byte by byte where it is in the set.
func TestEncodeOfEachNumber(t *testing.T) {
	for set := range named {
		var all string
		for _, c := range numbers() {
			want := utf.Encode([]rune{c})
			if inSet(set, c) {
				bytes := want
				want = ""
				for i := range len(bytes) {
					want += fmt.Sprintf("%%%02X", bytes[i])
				}
			}
			if s := Encode(set, []rune{c}); s != want {
				t.Errorf("set %d, %x: %q, and not %q", set, c, s, want)
			}
			all += want
		}
		if s := Encode(set, numbers()); s != all {
			t.Errorf("set %d, all in turn: %q", set, s)
		}
	}
}

// P3.1, P3.2: the empty list, nil or not, and the empty text.
func TestNothing(t *testing.T) {
	for set := -1; set <= 8; set++ {
		if Encode(set, nil) != "" || Encode(set, []rune{}) != "" {
			t.Errorf("set %d: something", set)
		}
	}
	if Decode("") != "" {
		t.Error("something of the empty text")
	}
}

// R3: the list that is handed in stays as it is.
func TestEncodeLeavesTheList(t *testing.T) {
	l := []rune{'a', -1, 0xD800, '%', 0x1F600}
	before := slices.Clone(l)
	Encode(Component, l[:3])
	Encode(Component, l)
	if !slices.Equal(l, before) {
		t.Errorf("%x", l)
	}
}

// P3.2: percent signs with none, one and two figures behind them, and percent signs behind percent signs.
func TestDecodeOrdinary(t *testing.T) {
	for s, want := range map[string]string{
		"abc": "abc", "a%3F%C3%A9": "a?é", "a%3f%c3%a9": "a?é", "%c3%A9%C3%a9": "éé", "a+b": "a+b",
		"%": "%", "a%": "a%", "%2": "%2", "%a": "%a", "%F": "%F", "%20": " ", "%20%": " %", "%20%2": " %2",
		"%zz": "%zz", "%4g": "%4g", "%g4": "%g4", "%4G": "%4G", "%-1": "%-1", "%+1": "%+1", "% 1": "% 1", "%1 ": "%1 ", "%0x": "%0x", "%x0": "%x0", "%4": "%4",
		"%%": "%%", "%%%": "%%%", "%%41": "%A", "%%%41": "%%A", "%4%31": "%41", "%4%%31": "%4%1", "%25": "%", "%2541": "%41", "%25%34%31": "%41", "%%34%31": "%41", "%%34%": "%4%", "%2525": "%25",
		"%411": "A1", "%41%42": "AB", "41%": "41%", "%00%fF": "\x00\xff", "%0041": "\x0041",
		"\xff%20": "\xff ", "%2\xb0": "%2\xb0", "%\xb0\xb0": "%\xb0\xb0", "%é": "%é", "\xe2\x82%41": "\xe2\x82A", "%E2%82A": "\xe2\x82A", "\x00%80\x80": "\x00\x80\x80", "１%１１": "１%１１",
	} {
		if d := Decode(s); d != want {
			t.Errorf("%q: %q, and not %q", s, d, want)
		}
	}
}

// P3.2: a percent sign with each two bytes behind it: all figures, and all that are none.
func TestDecodeOfEachTwoBytes(t *testing.T) {
	for a := range 256 {
		for b := range 256 {
			s := string([]byte{'%', byte(a), byte(b)})
			want := s
			high, okHigh := figures[byte(a)]
			low, okLow := figures[byte(b)]
			if okHigh && okLow {
				want = string([]byte{high<<4 + low})
			}
			if d := Decode(s); d != want {
				t.Errorf("%q: %q, and not %q", s, d, want)
			}
			if d := Decode("x" + s + "41"); d != "x"+want+"41" && b != '%' && a != '%' {
				t.Errorf("x%s41: %q", s, d)
			}
		}
	}
}

// P3.2: bytes without a percent sign stay as they are, whatever they are.
func TestDecodeLeavesOtherBytes(t *testing.T) {
	var all []byte
	for b := range 256 {
		if b != '%' {
			all = append(all, byte(b))
			if s := string([]byte{byte(b), '4', '1'}); Decode(s) != s {
				t.Errorf("%q: %q", s, Decode(s))
			}
		}
	}
	if s := string(all); Decode(s) != s {
		t.Errorf("all of them: %q", Decode(s))
	}
}

// P3.3: what is encoded by Component is decoded to what it was.
func TestComponentThereAndBack(t *testing.T) {
	for _, c := range numbers() {
		for _, l := range [][]rune{{c}, {'%', c}, {c, '4', '1'}, {'%', '4', c}, {'%', c, '1', c}} {
			if s := Decode(Encode(Component, l)); s != utf.Encode(l) {
				t.Errorf("%x: %q", l, s)
			}
		}
	}
	if s := Decode(Encode(Component, numbers())); s != utf.Encode(numbers()) {
		t.Errorf("all in turn: %q", s)
	}
}

// P3.3: what is in a set is told by figures, capital letters and percent signs alone.
func TestToldByFiguresAndPercentSigns(t *testing.T) {
	for set := range named {
		for _, c := range numbers() {
			if !In(set, c) {
				continue
			}
			s := Encode(set, []rune{c})
			if s == "" || strings.Trim(s, "%0123456789ABCDEF") != "" || len(s) != 3*strings.Count(s, "%") {
				t.Errorf("set %d, %x: %q", set, c, s)
			}
		}
	}
}

// P1: long texts end, in time that grows no faster than they do.
func TestLongTexts(t *testing.T) {
	const many = 1 << 20
	l := slices.Repeat([]rune{'%', 0x20AC}, many)
	s := Encode(Component, l)
	if s != strings.Repeat("%25%E2%82%AC", many) {
		t.Error("encoded otherwise")
	}
	if Decode(s) != strings.Repeat("%€", many) {
		t.Error("decoded otherwise")
	}
	if s := strings.Repeat("%", many); Decode(s) != s {
		t.Error("percent signs alone are decoded otherwise")
	}
}
