package fold

import (
	"errors"
	"math/rand"
	"slices"
	"testing"
	"unicode"

	"gatepost/api"
	"gatepost/fail"
)

// least and greatest are the outermost numbers that a rune may be.
const (
	least    = -1 << 31
	greatest = 1<<31 - 1
)

// bars are the ranges of the mapping's first line, as the document lists them.
var bars = [][2]rune{
	{least, -1}, {0x110000, greatest}, {0xD800, 0xDFFF}, {0x80, 0xA0}, {0x1680, 0x1680}, {0x2000, 0x200A}, {0x200E, 0x200E}, {0x200F, 0x200F}, {0x2028, 0x202F},
	{0x205F, 0x205F}, {0x2066, 0x2069}, {0xE000, 0xF8FF}, {0xFDD0, 0xFDEF}, {0xFFF9, 0xFFFF}, {0xE0000, greatest},
}

// capitals are the ranges of its lines of capital letters, and how far the small ones lie behind.
var capitals = []struct{ first, last, by rune }{
	{0x41, 0x5A, 0x20}, {0xC0, 0xD6, 0x20}, {0xD8, 0xDE, 0x20}, {0x391, 0x3A1, 0x20}, {0x3A3, 0x3A9, 0x20}, {0x410, 0x42F, 0x20}, {0x400, 0x40F, 0x50},
}

// makes are the pairs, by what they make.
var makes = map[rune][2]rune{
	0xE0: {'a', 0x300}, 0xE1: {'a', 0x301}, 0xE2: {'a', 0x302}, 0xE3: {'a', 0x303}, 0xE4: {'a', 0x308}, 0xE5: {'a', 0x30A},
	0xE7: {'c', 0x327},
	0xE8: {'e', 0x300}, 0xE9: {'e', 0x301}, 0xEA: {'e', 0x302}, 0xEB: {'e', 0x308},
	0xEC: {'i', 0x300}, 0xED: {'i', 0x301}, 0xEE: {'i', 0x302}, 0xEF: {'i', 0x308},
	0xF1: {'n', 0x303},
	0xF2: {'o', 0x300}, 0xF3: {'o', 0x301}, 0xF4: {'o', 0x302}, 0xF5: {'o', 0x303}, 0xF6: {'o', 0x308},
	0xF9: {'u', 0x300}, 0xFA: {'u', 0x301}, 0xFB: {'u', 0x302}, 0xFC: {'u', 0x308},
	0xFD: {'y', 0x301}, 0xFF: {'y', 0x308},
}

// edges are code points of each line of the mapping and beside them, and what they are mapped to, written out.
var edges = []struct {
	c    rune
	want string
	bar  bool
}{
	{c: least, bar: true}, {c: least + 1, bar: true}, {c: -0x41, bar: true}, {c: -2, bar: true}, {c: -1, bar: true}, {c: 0, want: "\x00"}, {c: 1, want: "\x01"},
	{c: ' ', want: " "}, {c: '-', want: "-"}, {c: '.', want: "."}, {c: '0', want: "0"}, {c: '9', want: "9"},
	{c: 0x40, want: "@"}, {c: 0x41, want: "a"}, {c: 0x42, want: "b"}, {c: 0x59, want: "y"}, {c: 0x5A, want: "z"}, {c: 0x5B, want: "["},
	{c: 0x60, want: "`"}, {c: 0x61, want: "a"}, {c: 0x7A, want: "z"}, {c: 0x7B, want: "{"},
	{c: 0x7E, want: "~"}, {c: 0x7F, want: "\x7f"}, {c: 0x80, bar: true}, {c: 0x81, bar: true}, {c: 0x9F, bar: true}, {c: 0xA0, bar: true}, {c: 0xA1, want: "¡"},
	{c: 0xAC, want: "¬"}, {c: 0xAD}, {c: 0xAE, want: "®"},
	{c: 0xBF, want: "¿"}, {c: 0xC0, want: "à"}, {c: 0xC1, want: "á"}, {c: 0xD5, want: "õ"}, {c: 0xD6, want: "ö"}, {c: 0xD7, want: "×"},
	{c: 0xD8, want: "ø"}, {c: 0xDD, want: "ý"}, {c: 0xDE, want: "þ"}, {c: 0xDF, want: "ß"}, {c: 0xE0, want: "à"}, {c: 0xF7, want: "÷"}, {c: 0xFF, want: "ÿ"},
	{c: 0x100, want: "Ā"}, {c: 0x178, want: "Ÿ"}, {c: 0x2FF, want: "\u02ff"}, {c: 0x300, want: "\u0300"}, {c: 0x301, want: "\u0301"}, {c: 0x327, want: "\u0327"},
	{c: 0x386, want: "Ά"}, {c: 0x390, want: "ΐ"}, {c: 0x391, want: "α"}, {c: 0x392, want: "β"}, {c: 0x3A0, want: "π"}, {c: 0x3A1, want: "ρ"}, {c: 0x3A2, want: "\u03a2"},
	{c: 0x3A3, want: "σ"}, {c: 0x3A8, want: "ψ"}, {c: 0x3A9, want: "ω"}, {c: 0x3AA, want: "Ϊ"}, {c: 0x3B1, want: "α"}, {c: 0x3C2, want: "ς"},
	{c: 0x3FF, want: "Ͽ"}, {c: 0x400, want: "ѐ"}, {c: 0x401, want: "ё"}, {c: 0x40E, want: "ў"}, {c: 0x40F, want: "џ"},
	{c: 0x410, want: "а"}, {c: 0x411, want: "б"}, {c: 0x42E, want: "ю"}, {c: 0x42F, want: "я"}, {c: 0x430, want: "а"}, {c: 0x450, want: "ѐ"}, {c: 0x460, want: "Ѡ"},
	{c: 0x167F, want: "\u167f"}, {c: 0x1680, bar: true}, {c: 0x1681, want: "\u1681"},
	{c: 0x1E9D, want: "\u1e9d"}, {c: 0x1E9E, want: "ss"}, {c: 0x1E9F, want: "\u1e9f"},
	{c: 0x1FFF, want: "\u1fff"}, {c: 0x2000, bar: true}, {c: 0x2001, bar: true}, {c: 0x2009, bar: true}, {c: 0x200A, bar: true},
	{c: 0x200B}, {c: 0x200C, want: "\u200c"}, {c: 0x200D, want: "\u200d"}, {c: 0x200E, bar: true}, {c: 0x200F, bar: true}, {c: 0x2010, want: "\u2010"},
	{c: 0x2027, want: "\u2027"}, {c: 0x2028, bar: true}, {c: 0x2029, bar: true}, {c: 0x202E, bar: true}, {c: 0x202F, bar: true}, {c: 0x2030, want: "\u2030"},
	{c: 0x205E, want: "\u205e"}, {c: 0x205F, bar: true}, {c: 0x2060}, {c: 0x2061, want: "\u2061"},
	{c: 0x2065, want: "\u2065"}, {c: 0x2066, bar: true}, {c: 0x2067, bar: true}, {c: 0x2068, bar: true}, {c: 0x2069, bar: true}, {c: 0x206A, want: "\u206a"},
	{c: 0x212A, want: "\u212a"}, {c: 0x212B, want: "\u212b"}, {c: 0x3000, want: "\u3000"}, {c: 0x3001, want: "\u3001"}, {c: 0x3002, want: "."}, {c: 0x3003, want: "\u3003"},
	{c: 0x4E00, want: "一"}, {c: 0xD7FF, want: "\ud7ff"}, {c: 0xD800, bar: true}, {c: 0xD801, bar: true}, {c: 0xDBFF, bar: true}, {c: 0xDC00, bar: true},
	{c: 0xDFFE, bar: true}, {c: 0xDFFF, bar: true}, {c: 0xE000, bar: true}, {c: 0xE001, bar: true}, {c: 0xF8FE, bar: true}, {c: 0xF8FF, bar: true}, {c: 0xF900, want: "\uf900"},
	{c: 0xFDCF, want: "\ufdcf"}, {c: 0xFDD0, bar: true}, {c: 0xFDD1, bar: true}, {c: 0xFDEE, bar: true}, {c: 0xFDEF, bar: true}, {c: 0xFDF0, want: "\ufdf0"},
	{c: 0xFEFE, want: "\ufefe"}, {c: 0xFEFF}, {c: 0xFF00, want: "\uff00"},
	{c: 0xFF01, want: "!"}, {c: 0xFF02, want: "\""}, {c: 0xFF05, want: "%"}, {c: 0xFF0D, want: "-"}, {c: 0xFF0E, want: "."}, {c: 0xFF0F, want: "/"},
	{c: 0xFF10, want: "0"}, {c: 0xFF19, want: "9"}, {c: 0xFF20, want: "@"}, {c: 0xFF21, want: "a"}, {c: 0xFF22, want: "b"}, {c: 0xFF39, want: "y"}, {c: 0xFF3A, want: "z"},
	{c: 0xFF3B, want: "["}, {c: 0xFF40, want: "`"}, {c: 0xFF41, want: "a"}, {c: 0xFF5A, want: "z"}, {c: 0xFF5B, want: "{"}, {c: 0xFF5D, want: "}"}, {c: 0xFF5E, want: "~"},
	{c: 0xFF5F, want: "\uff5f"}, {c: 0xFF60, want: "\uff60"}, {c: 0xFF61, want: "."}, {c: 0xFF62, want: "\uff62"},
	{c: 0xFFF8, want: "\ufff8"}, {c: 0xFFF9, bar: true}, {c: 0xFFFA, bar: true}, {c: 0xFFFD, bar: true}, {c: 0xFFFE, bar: true}, {c: 0xFFFF, bar: true},
	{c: 0x10000, want: "\U00010000"}, {c: 0x1F600, want: "\U0001f600"}, {c: 0x1FFFF, want: "\U0001ffff"}, {c: 0xDFFFE, want: "\U000dfffe"}, {c: 0xDFFFF, want: "\U000dffff"},
	{c: 0xE0000, bar: true}, {c: 0xE0001, bar: true}, {c: 0xF0000, bar: true}, {c: 0x10FFFE, bar: true}, {c: 0x10FFFF, bar: true},
	{c: 0x110000, bar: true}, {c: 0x110001, bar: true}, {c: 0x200041, bar: true}, {c: greatest - 1, bar: true}, {c: greatest, bar: true},
}

// mappedTo is the mapping, line by line.
func mappedTo(c rune) ([]rune, bool) {
	for _, b := range bars {
		if b[0] <= c && c <= b[1] {
			return nil, false
		}
	}
	switch c {
	case 0xAD, 0x200B, 0x2060, 0xFEFF:
		return nil, true
	case 0x3002, 0xFF61:
		return []rune{0x2E}, true
	case 0x1E9E:
		return []rune{0x73, 0x73}, true
	}
	if 0xFF01 <= c && c <= 0xFF5E {
		return mappedTo(c - 0xFEE0)
	}
	for _, r := range capitals {
		if r.first <= c && c <= r.last {
			return []rune{c + r.by}, true
		}
	}
	return []rune{c}, true
}

// madeOf is what two code points make, and whether they are a pair.
func madeOf(letter, mark rune) (rune, bool) {
	for both, p := range makes {
		if p[0] == letter && p[1] == mark {
			return both, true
		}
	}
	return 0, false
}

// composedOf is Compose, word by word: a pair is taken whole, from the begin on.
func composedOf(l []rune) []rune {
	var composed []rune
	for at := 0; at < len(l); at++ {
		if at+1 < len(l) {
			if both, ok := madeOf(l[at], l[at+1]); ok {
				composed = append(composed, both)
				at++
				continue
			}
		}
		composed = append(composed, l[at])
	}
	return composed
}

// foldedOf is Fold, word by word: all are mapped first, and composed then.
func foldedOf(l []rune) ([]rune, bool) {
	var mapped []rune
	for _, c := range l {
		some, ok := mappedTo(c)
		if !ok {
			return nil, false
		}
		mapped = append(mapped, some...)
	}
	return composedOf(mapped), true
}

// eachList hands all lists of up to some length of some code points on.
func eachList(most int, of []rune, with func([]rune)) {
	var grow func(l []rune)
	grow = func(l []rune) {
		with(slices.Clone(l))
		if len(l) == most {
			return
		}
		for _, c := range of {
			grow(append(l, c))
		}
	}
	grow(nil)
}

// ladder are the code points of ASCII that are letters, and others that look like them, or are made by a pair.
func ladder() []rune {
	others := []rune{0, -1, ' ', '-', '.', '0', 0xAD, 0xE0, 0xE1, 0xE7, 0xEF, 0xF1, 0xFC, 0xFF, 0x131, 0x251, 0x300, 0x301, 0x308, 0x327, 0x3B1, 0x430, 0xFF41, 0x110000}
	for c := 'A'; c <= 'Z'; c++ {
		others = append(others, c, c+0x20)
	}
	return others
}

// wantFold asks Fold of a list that may be.
func wantFold(t *testing.T, l, want []rune) {
	t.Helper()
	if got, e := Fold(l); e != nil || !slices.Equal(got, want) {
		t.Errorf("Fold(%x): %x, %v, want %x", l, got, e, want)
	}
}

// wantNoFold asks Fold of a list that may not be.
func wantNoFold(t *testing.T, l []rune) {
	t.Helper()
	got, e := Fold(l)
	if got != nil || !errors.Is(e, api.ErrForm) || fail.Code(e) != api.ErrForm {
		t.Errorf("Fold(%x): %x, %v, want an error of the form", l, got, e)
	}
}

// P5.1: each line's edges.
func TestMapAtEdges(t *testing.T) {
	for _, c := range edges {
		got, ok := Map(c.c)
		if ok == c.bar || string(got) != c.want || !ok && got != nil {
			t.Errorf("Map(%x): %q, %v, want %q, %v", c.c, string(got), ok, c.want, !c.bar)
		}
	}
}

// P5.1: every number that may be, and those around, held against the lines of the document.
func TestMapLineByLine(t *testing.T) {
	check := func(c rune) {
		got, ok := Map(c)
		want, wantOK := mappedTo(c)
		if ok != wantOK || !slices.Equal(got, want) {
			t.Fatalf("Map(%x): %x, %v, want %x, %v", c, got, ok, want, wantOK)
		}
	}
	for c := rune(-0x1000); c <= 0x120000; c++ {
		check(c)
	}
	for bit := range 31 {
		for off := rune(-3); off <= 3; off++ {
			check(1<<bit + off)
			check(-1<<bit + off)
		}
	}
	for off := rune(0); off < 100; off++ {
		check(least + off)
		check(greatest - off)
	}
}

// P5.1: what is told is new each time.
func TestMapTellsNewMemory(t *testing.T) {
	for _, c := range []rune{'a', 'A', 0x3002, 0xFF21, 0x1E9E} {
		first, _ := Map(c)
		want := slices.Clone(first)
		first[0] = 'x'
		if got, ok := Map(c); !ok || !slices.Equal(got, want) {
			t.Errorf("Map(%x), told again: %x, want %x", c, got, want)
		}
	}
}

// P5.2: each pair.
func TestComposeOfPairs(t *testing.T) {
	if len(makes) != 27 {
		t.Fatalf("pairs: %d", len(makes))
	}
	for both, p := range makes {
		if got := Compose(p[:]); !slices.Equal(got, []rune{both}) {
			t.Errorf("Compose(%x): %x, want %x", p, got, both)
		}
		wantFold(t, p[:], []rune{both})
		wantFold(t, []rune{unicode.ToUpper(p[0]), p[1]}, []rune{both})
	}
}

// P5.2: each letter, and what looks like one, with each mark of that block, and the code points beside it.
func TestComposeOfOtherPairs(t *testing.T) {
	for _, letter := range ladder() {
		for mark := rune(0x2F0); mark <= 0x380; mark++ {
			want := []rune{letter, mark}
			if both, ok := madeOf(letter, mark); ok {
				want = []rune{both}
			}
			if got := Compose([]rune{letter, mark}); !slices.Equal(got, want) {
				t.Errorf("Compose(%x, %x): %x, want %x", letter, mark, got, want)
			}
		}
	}
}

// P5.2: where marks stand.
func TestComposeOfLists(t *testing.T) {
	tests := []struct{ l, want []rune }{
		{nil, nil},
		{[]rune{}, nil},
		{[]rune{'a'}, []rune{'a'}},
		{[]rune{0x301}, []rune{0x301}},
		{[]rune{0x301, 'a'}, []rune{0x301, 'a'}},
		{[]rune{0x301, 'a', 0x301}, []rune{0x301, 0xE1}},
		{[]rune{0x301, 0x301}, []rune{0x301, 0x301}},
		{[]rune{'e', 0x301, 0x301}, []rune{0xE9, 0x301}},
		{[]rune{'e', 0x301, 0x300}, []rune{0xE9, 0x300}},
		{[]rune{'c', 0x301, 0x327}, []rune{'c', 0x301, 0x327}},
		{[]rune{'c', 0x327, 0x301}, []rune{0xE7, 0x301}},
		{[]rune{'i', 0x303, 0x301}, []rune{'i', 0x303, 0x301}},
		{[]rune{0xE9, 0x301}, []rune{0xE9, 0x301}},
		{[]rune{0xE1, 0x302}, []rune{0xE1, 0x302}},
		{[]rune{'a', 'b', 0x301}, []rune{'a', 'b', 0x301}},
		{[]rune{'a', 'a', 0x301}, []rune{'a', 0xE1}},
		{[]rune{'a', 0x301, 'a', 0x301, 'o', 0x308}, []rune{0xE1, 0xE1, 0xF6}},
		{[]rune{'a', 0x301, 0x301, 'a', 0x301}, []rune{0xE1, 0x301, 0xE1}},
		{[]rune{'a', 0xAD, 0x301}, []rune{'a', 0xAD, 0x301}},
		{[]rune{'A', 0x301, 'a', 0x301}, []rune{'A', 0x301, 0xE1}},
		{[]rune{-1, 0x301, 0xD800, 0x110000, 0x80, 0}, []rune{-1, 0x301, 0xD800, 0x110000, 0x80, 0}},
	}
	for _, c := range tests {
		if got := Compose(c.l); !slices.Equal(got, c.want) {
			t.Errorf("Compose(%x): %x, want %x", c.l, got, c.want)
		}
	}
	some := []rune{'a', 'c', 'i', 'A', 'b', 0xE1, 0x301, 0x303, 0x327}
	eachList(5, some, func(l []rune) {
		if got, want := Compose(l), composedOf(l); !slices.Equal(got, want) {
			t.Fatalf("Compose(%x): %x, want %x", l, got, want)
		}
	})
}

// P5.2: lists that are mapped, and composed then.
func TestFoldOfLists(t *testing.T) {
	tests := []struct {
		l    []rune
		want string
	}{
		{nil, ""},
		{[]rune{}, ""},
		{[]rune{0xAD}, ""},
		{[]rune{0xAD, 0x200B, 0x2060, 0xFEFF}, ""},
		{[]rune{'A', 0x301}, "á"},
		{[]rune{0xFF21}, "a"},
		{[]rune{0xFF21, 0x30A}, "å"},
		{[]rune{0xFF41, 0x30A}, "å"},
		{[]rune{0xC1, 0x301}, "á\u0301"},
		{[]rune{'a', 0xAD, 0x300}, "à"},
		{[]rune{'C', 0x200B, 0x2060, 0xFEFF, 0x327}, "ç"},
		{[]rune{'a', 0xAD, 0x300, 0xAD, 0x300}, "à\u0300"},
		{[]rune{'a', '-', 0x300}, "a-\u0300"},
		{[]rune{'a', 0x200D, 0x300}, "a\u200d\u0300"},
		{[]rune{0xAD, 0x300, 'a'}, "\u0300a"},
		{[]rune{0x1E9E, 0x301}, "ss\u0301"},
		{[]rune{'a', 0x1E9E, 'b'}, "assb"},
		{[]rune{'a', 0x3002, 'B', 0xFF61, 'c', 0xFF0E, 'D', '.'}, "a.b.c.d."},
		{[]rune{'B', 0xDC, 'C', 'H', 'E', 'R'}, "bücher"},
		{[]rune{'B', 'U', 0x308, 'C', 'H', 'E', 'R'}, "bücher"},
		{[]rune{0x391, 0x301, 0x418, 0x306}, "α\u0301и\u0306"},
		{[]rune{0, ' ', '%', 0x7F}, "\x00 %\x7f"},
	}
	for _, c := range tests {
		wantFold(t, c.l, []rune(c.want))
	}
}

// P5.2: all short lists of code points of each line, and long ones by chance, held against the document's words.
func TestFoldWordByWord(t *testing.T) {
	check := func(l []rune) {
		if want, ok := foldedOf(l); ok {
			wantFold(t, l, want)
		} else {
			wantNoFold(t, l)
		}
	}
	some := []rune{'a', 'A', 0xFF21, 'c', 'C', 0x301, 0x327, 0xAD, 0x3002, 0x1E9E, 0xC1, 0x80}
	eachList(4, some, check)
	chance := rand.New(rand.NewSource(5))
	for range 2000 {
		l := make([]rune, chance.Intn(40))
		for at := range l {
			l[at] = some[chance.Intn(len(some)-1)]
		}
		check(l)
	}
	for _, c := range edges {
		check([]rune{c.c})
		check([]rune{'E', c.c, 0x301})
	}
}

// P5.2: one that may not be, at each place.
func TestFoldOfOneThatMayNotBe(t *testing.T) {
	for _, c := range edges {
		if !c.bar {
			continue
		}
		wantNoFold(t, []rune{c.c})
		for place := range 6 {
			l := []rune{'A', 0x301, 0xAD, 'b', 0x3002}
			wantNoFold(t, slices.Insert(l, place, c.c))
		}
		wantNoFold(t, []rune{c.c, c.c})
		wantNoFold(t, []rune{c.c, 'a', 0x80})
	}
}

// P5.3: what is folded is folded to itself.
func TestFoldedIsFoldedToItself(t *testing.T) {
	check := func(l []rune) {
		if folded, e := Fold(l); e == nil {
			wantFold(t, folded, folded)
			if got := Compose(folded); !slices.Equal(got, folded) {
				t.Errorf("Compose(%x): %x", folded, got)
			}
		}
	}
	for c := rune(0); c < 0xE0000; c++ {
		check([]rune{c})
	}
	for _, c := range edges {
		for mark := rune(0x2FF); mark <= 0x330; mark++ {
			check([]rune{c.c, mark})
			check([]rune{c.c, mark, 0x301})
			check([]rune{'a', c.c, mark})
		}
	}
	eachList(4, []rune{'A', 'c', 0xFF23, 0x301, 0x327, 0xAD, 0x3002, 0x1E9E, 0xC9}, check)
}

// P5.3: capital letters, full-width ones, too, fold as small ones do.
func TestCapitalsFoldAsSmallOnes(t *testing.T) {
	same := func(capital, small rune) {
		for _, behind := range [][]rune{nil, {0x300}, {0x301}, {0x302}, {0x303}, {0x308}, {0x30A}, {0x327}, {0x301, 0x301}, {0xAD, 0x308}, {'b'}} {
			want, e := Fold(append([]rune{'x', small}, behind...))
			if e != nil {
				t.Fatalf("Fold of %x: %v", small, e)
			}
			wantFold(t, append([]rune{'x', capital}, behind...), want)
		}
	}
	for _, r := range capitals {
		for c := r.first; c <= r.last; c++ {
			if unicode.ToLower(c) != c+r.by {
				t.Fatalf("%x is no capital letter of %x", c, c+r.by)
			}
			same(c, c+r.by)
		}
	}
	for c := rune(0xFF21); c <= 0xFF3A; c++ {
		same(c, c+0x20)
		same(c, c-0xFEE0)
		same(c, c-0xFEE0+0x20)
	}
}

// R3: what is handed in stays as it is, and shares no memory with what is told.
func TestListsThatAreHandedInStay(t *testing.T) {
	for _, given := range [][]rune{
		{'a', 'b', 'c'},
		{'a', 0x301, 'b', 0x301},
		{'A', 0x301, 0xAD, 0x1E9E, 0xFF21, 0x30A},
		{'a', 0x301, 0x80},
		{0x301, 'o', 0x308},
	} {
		room := append(slices.Clone(given), 1, 2, 3)
		kept := slices.Clone(room)
		l := room[:len(given)]
		composed := Compose(l)
		folded, _ := Fold(l)
		for at := range composed {
			composed[at] = 'x'
		}
		for at := range folded {
			folded[at] = 'y'
		}
		if !slices.Equal(room, kept) {
			t.Errorf("%x was changed to %x", kept, room)
		}
	}
}

// R3: no later call changes what was told.
func TestNoLaterCallChangesWhatWasTold(t *testing.T) {
	first, _ := Fold([]rune{'A', 'B', 'C'})
	second := Compose([]rune{'d', 'e', 'f'})
	Fold([]rune{'x', 'y', 'z'})
	Compose([]rune{'u', 0x308, 'v'})
	if string(first) != "abc" || string(second) != "def" {
		t.Errorf("told: %q, %q", string(first), string(second))
	}
}

// P1: long lists are told, too.
func TestLongLists(t *testing.T) {
	const long = 1 << 20
	var l []rune
	for range long {
		l = append(l, 'A', 0xAD, 0x301)
	}
	want := slices.Repeat([]rune{0xE1}, long)
	if got, e := Fold(l); e != nil || !slices.Equal(got, want) {
		t.Errorf("Fold: %d code points, %v", len(got), e)
	}
	if got := Compose(l); !slices.Equal(got, l) {
		t.Errorf("Compose: %d code points", len(got))
	}
	wantNoFold(t, append(slices.Repeat([]rune{'a'}, 1<<16), -1))
	marks := append([]rune{'o'}, slices.Repeat([]rune{0x308}, long)...)
	wantFold(t, marks, append([]rune{0xF6}, slices.Repeat([]rune{0x308}, long-1)...))
}
