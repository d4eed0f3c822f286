package label

import (
	"errors"
	"math/rand"
	"slices"
	"strings"
	"testing"

	"gatepost/api"
	"gatepost/fail"
	"gatepost/fold"
	"gatepost/puny"
)

// noScalars are numbers on both sides of what a scalar may be.
var noScalars = []rune{-1 << 31, -0x41, -1, 0xD800, 0xD801, 0xDBFF, 0xDC00, 0xDFFE, 0xDFFF, 0x110000, 0x110001, 0x200041, 1<<31 - 1}

// stands are parts that begin with x, n and two hyphens, and are told as they are.
var stands = []string{
	"xn--bcher-kva", "xn--tda", "xn--zca", "xn--a-7hb", "xn--b-xbb", "xn--wgv71a119e", "xn--e28h", "xn--hb9b", "xn--z426e", "xn--0ug", "xn--xda", "xn--wda", "xn--9ca68h",
	"xn----eha", "xn----dha", "xn--a-8hb", "xn--a-sbb", "xn--jsa", "xn--rva", "xn-- xn---jva", "xn--a b-joa", "xn--\x00-eha", "xn--\x7f-eha", "xn--xn---3ra", "xn--xn--joa",
}

// falls are parts that begin so, and may not be.
var falls = map[string]string{
	"nothing stands behind":                 "xn--",
	"a hyphen alone":                        "xn---",
	"a digit is wanting":                    "xn--bcher-kv",
	"a digit is wanting, and none is there": "xn--z",
	"no digit":                              "xn--!",
	"no digit behind the hyphen":            "xn--bcher-kv!",
	"a blank":                               "xn--tda ",
	"a code point above 10FFFF":             "xn--en32g",
	"a surrogate":                           "xn--ib9b",
	"the last surrogate":                    "xn--zy0c",
	"all below 128":                         "xn--abc-",
	"one below 128":                         "xn--a-",
	"hyphens below 128":                     "xn-----",
	"a mark alone":                          "xn--lsa",
	"the first mark first":                  "xn--a-ubb",
	"the last mark alone":                   "xn--qva",
	"a mark ahead of a letter from 128 on":  "xn--tda54h",
	"a capital letter from 128 on":          "xn--wca",
	"a capital letter of Greek":             "xn--pwa",
	"a capital letter of Cyrillic":          "xn--c0a",
	"the capital sharp s":                   "xn--kkg",
	"a and acute":                           "xn--a-xbb",
	"e and acute":                           "xn--e-xbb",
	"c and cedilla":                         "xn--c-3db",
	"y and diaeresis":                       "xn--y-ccb",
	"80, which may not be":                  "xn--a",
	"A0, which may not be":                  "xn--6a",
	"1680, which may not be":                "xn--a-3gj",
	"E000, which may not be":                "xn--0y0c",
	"FFFF, which may not be":                "xn--1n7c",
	"E0000, which may not be":               "xn--0426e",
	"10FFFF, which may not be":              "xn--dn32g",
	"AD, which is left out":                 "xn--kba",
	"AD between, which is left out":         "xn--ab-5da",
	"FEFF, which is left out":               "xn--qg7c",
	"3002, which is a dot":                  "xn--r6j",
	"3002 between":                          "xn--ab-yka4629b",
	"a full-width letter":                   "xn--tda9921k",
}

// short is a text that may be long, as far as it is of use in a message.
func short(s string) string {
	if len(s) > 200 {
		return s[:200] + ".."
	}
	return s
}

// wantTold asks a call of a list that may be.
func wantTold(t *testing.T, call func([]rune) (string, error), l []rune, want string) {
	t.Helper()
	if got, e := call(l); e != nil || got != want {
		t.Errorf("%q: %q, %v, want %q", short(string(l)), short(got), e, short(want))
	}
}

// wantError asks a call of a list that may not be.
func wantError(t *testing.T, call func([]rune) (string, error), l []rune, want api.Errno) {
	t.Helper()
	got, e := call(l)
	if got != "" || !errors.Is(e, want) || fail.Code(e) != want {
		t.Errorf("%x: %q, %v, want an error of %v", l[:min(len(l), 50)], short(got), e, want)
	}
	for other := api.OK; other <= api.ErrNone; other++ {
		if other != want && errors.Is(e, other) {
			t.Errorf("%x: %v wraps %v, too", l[:min(len(l), 50)], e, other)
		}
	}
}

// beyond counts the code points from 128 on.
func beyond(l []rune) int {
	count := 0
	for _, c := range l {
		if c >= 128 {
			count++
		}
	}
	return count
}

// oneOf is One, word by word.
func oneOf(l []rune) (string, bool) {
	for _, c := range l {
		if c < 0 || c > 0x10FFFF || 0xD800 <= c && c <= 0xDFFF {
			return "", false
		}
	}
	if len(l) >= 4 && l[0] == 'x' && l[1] == 'n' && l[2] == '-' && l[3] == '-' {
		if beyond(l) > 0 {
			return "", false
		}
		decoded, e := puny.Decode(string(l[4:]))
		if e != nil || len(decoded) == 0 || beyond(decoded) == 0 || 0x300 <= decoded[0] && decoded[0] <= 0x36F {
			return "", false
		}
		folded, e := fold.Fold(decoded)
		if e != nil || !slices.Equal(folded, decoded) {
			return "", false
		}
		return string(l), true
	}
	if beyond(l) == 0 {
		return string(l), true
	}
	if 0x300 <= l[0] && l[0] <= 0x36F {
		return "", false
	}
	code, e := puny.Encode(l)
	return "xn--" + code, e == nil
}

// allOf is All, word by word.
func allOf(l []rune) (string, api.Errno) {
	folded, e := fold.Fold(l)
	if e != nil {
		return "", api.ErrForm
	}
	var told []string
	for _, part := range strings.Split(string(folded), ".") {
		one, ok := oneOf([]rune(part))
		if !ok {
			return "", api.ErrForm
		}
		told = append(told, one)
	}
	name := strings.Join(told, ".")
	if name == "" {
		return "", api.ErrHost
	}
	return name, api.OK
}

// checkOne holds One against the document's words.
func checkOne(t *testing.T, l []rune) {
	t.Helper()
	if want, ok := oneOf(l); ok {
		wantTold(t, One, l, want)
	} else {
		wantError(t, One, l, api.ErrForm)
	}
}

// checkAll holds All against the document's words, and what it tells against what follows of them.
func checkAll(t *testing.T, l []rune) {
	t.Helper()
	want, number := allOf(l)
	if number != api.OK {
		wantError(t, All, l, number)
		return
	}
	wantTold(t, All, l, want)
	wantItself(t, l)
}

// wantItself asks whether what All tells of a list is told to itself, without letters from 128 on or capital ones.
func wantItself(t *testing.T, l []rune) {
	t.Helper()
	told, e := All(l)
	if e != nil {
		t.Errorf("%q: %v", short(string(l)), e)
		return
	}
	wantTold(t, All, []rune(told), told)
	for at := range len(told) {
		if b := told[at]; b >= 128 || 'A' <= b && b <= 'Z' {
			t.Errorf("%q: %q has %q", short(string(l)), short(told), b)
		}
	}
}

// eachList hands all lists of up to some length of some code points on.
func eachList(most int, of []rune, with func([]rune)) {
	var grow func(l []rune)
	grow = func(l []rune) {
		with(slices.Clone(l))
		if len(l) == most {
			return
		}
		for _, c := range of {
			grow(append(l, c))
		}
	}
	grow(nil)
}

// P6.1: nothing, and letters below 128, are told as they are.
func TestOneBelow128(t *testing.T) {
	wantTold(t, One, nil, "")
	wantTold(t, One, []rune{}, "")
	for c := rune(0); c < 128; c++ {
		wantTold(t, One, []rune{c}, string(c))
		wantTold(t, One, []rune{'a', c, 'Z'}, "a"+string(c)+"Z")
	}
	for _, s := range []string{
		"abc", "AbC", "ABC", "a.b", ".", "..", "-", "--", "a b", " ", "%41", "!\"#$&'()*+,/:;<=>?@[\\]^_`{|}~", "\x00\x1f\x7f", "0123456789",
		"x", "xn", "xn-", "xn-a", "xn.--", "x-n-", "xm--", "yn--", "n--", "--", "axn--", "-xn--", ".xn--", " xn--", "a-xn--tda",
	} {
		wantTold(t, One, []rune(s), s)
	}
}

// P6.1: capital X and N begin nothing that is asked.
func TestOneOfCapitalPrefixes(t *testing.T) {
	for _, begin := range []string{"XN--", "Xn--", "xN--"} {
		for _, rest := range []string{"", "!", "a", "abc-", "bcher-kva", "BCHER-KVA"} {
			wantTold(t, One, []rune(begin+rest), begin+rest)
		}
		wantTold(t, One, []rune(begin+"ü"), "xn--"+begin+"-3ra")
	}
}

// P6.1: numbers that are no scalars, alone and at each place.
func TestOneOfNoScalars(t *testing.T) {
	for _, c := range noScalars {
		wantError(t, One, []rune{c}, api.ErrForm)
		wantError(t, One, []rune{c, c}, api.ErrForm)
		for _, s := range []string{"abc", "bücher", "\u0301a", "xn--", "xn--bcher-kva", "xn--ü"} {
			l := []rune(s)
			for place := range len(l) + 1 {
				wantError(t, One, slices.Insert(slices.Clone(l), place, c), api.ErrForm)
			}
		}
	}
	for _, c := range []rune{0xD7FF, 0xE000, 0x10FFFF} {
		code, e := puny.Encode([]rune{'a', c})
		if e != nil {
			t.Fatal(e)
		}
		wantTold(t, One, []rune{'a', c}, "xn--"+code)
	}
}

// P6.1: code points from 128 on are told by Punycode, as they are.
func TestOneFrom128On(t *testing.T) {
	for s, want := range map[string]string{
		"bücher": "xn--bcher-kva", "Bücher": "xn--Bcher-kva", "ü": "xn--tda", "Ü": "xn--wca", "ß": "xn--zca", "日本語": "xn--wgv71a119e", "\U0001F600": "xn--e28h",
		"\u0080": "xn--a", "\u00a0": "xn--6a", "\u00ad": "xn--kba", "\u3002": "xn--r6j", "\ufeff": "xn--qg7c", "\ud7ff": "xn--hb9b", "\ue000": "xn--0y0c",
		"\uffff": "xn--1n7c", "\U0010FFFF": "xn--dn32g", "-ü": "xn----eha", "ü-": "xn----dha", "a.ü": "xn--a.-yka", "a b\u00fc": "xn--a b-joa", "\x00ü": "xn--\x00-eha",
		"xn-ü": "xn--xn--joa", "axn--ü": "xn--axn---ova", "ü xn--": "xn-- xn---jva", "XNü": "xn--XN-yka",
	} {
		wantTold(t, One, []rune(s), want)
	}
}

// P6.1: a mark may not be first; its neighbours may, and so may a mark behind a letter.
func TestOneOfMarks(t *testing.T) {
	for mark := rune(0x300); mark <= 0x36F; mark++ {
		wantError(t, One, []rune{mark}, api.ErrForm)
		wantError(t, One, []rune{mark, 'a'}, api.ErrForm)
		wantError(t, One, []rune{mark, mark}, api.ErrForm)
		code, e := puny.Encode([]rune{'b', mark, 'c'})
		if e != nil {
			t.Fatal(e)
		}
		wantTold(t, One, []rune{'b', mark, 'c'}, "xn--"+code)
	}
	for s, want := range map[string]string{
		"\u02ff": "xn--jsa", "\u0370": "xn--rva", "\u02ffa": "xn--a-sbb", "\u0370a": "xn--a-8hb", "a\u0301": "xn--a-xbb", "a\u0300b": "xn--ab-5tb", "a\u036f": "xn--a-7hb",
		"ü\u0301": "xn--tda84h", "é\u0301": "xn--9ca68h",
	} {
		wantTold(t, One, []rune(s), want)
	}
}

// P6.1: what stands behind x, n and two hyphens.
func TestOneOfPrefix(t *testing.T) {
	for _, s := range stands {
		wantTold(t, One, []rune(s), s)
	}
	for why, s := range falls {
		t.Run(why, func(t *testing.T) { wantError(t, One, []rune(s), api.ErrForm) })
	}
	// Digits that are capital letters decode as small ones do, and One tells what it was handed.
	wantTold(t, One, []rune("xn--bcher-KVA"), "xn--bcher-KVA")
	wantTold(t, One, []rune("xn--TDA"), "xn--TDA")
	wantTold(t, One, []rune("xn--a.-yka"), "xn--a.-yka")
	// Ahead of the last hyphen they are code points of the part, that fold to others.
	for _, s := range []string{"xn--Bcher-kva", "xn--bcHer-kva", "xn--BCHER-KVA"} {
		wantError(t, One, []rune(s), api.ErrForm)
		wantTold(t, All, []rune(s), "xn--bcher-kva")
	}
}

// P6.1: x, n and two hyphens ahead of a code point from 128 on.
func TestOneOfPrefixAndFrom128On(t *testing.T) {
	for _, s := range []string{"xn--ü", "xn--\u0080", "xn--bcher-kvaü", "xn--übcher-kva", "xn--bücher-kva", "xn--\u0301", "xn--tda\u00ad", "xn--\U0010FFFF"} {
		wantError(t, One, []rune(s), api.ErrForm)
	}
}

// P6.1: each code point alone, by itself and as Punycode.
func TestOneOfEachCodePoint(t *testing.T) {
	for c := rune(-2); c <= 0x110002; c++ {
		checkOne(t, []rune{c})
		if code, e := puny.Encode([]rune{c}); e == nil {
			checkOne(t, []rune("xn--"+code))
		}
	}
}

// P6.1: short lists, and what stands behind x, n and two hyphens, held against the document's words.
func TestOneWordByWord(t *testing.T) {
	eachList(4, []rune{'a', 'A', '.', '-', 0xFC, 0xDC, 0x2FF, 0x300, 0x36F, 0x370, 0xAD, -1, 0xD800}, func(l []rune) { checkOne(t, l) })
	prefix := []rune{'x', 'n', '-', '-'}
	eachList(3, []rune("abcdefghijklmnopqrstuvwxyz0123456789-AZ.!ü"), func(l []rune) { checkOne(t, slices.Concat(prefix, l)) })
	eachList(4, []rune{'a', 'c', 'B', '-', 0xFC, 0xDC, 0x301, 0x327, 0xAD, 0x80, 0x3002}, func(l []rune) {
		code, e := puny.Encode(l)
		if e != nil {
			t.Fatal(e)
		}
		checkOne(t, slices.Concat(prefix, []rune(code)))
		checkOne(t, []rune(strings.ToUpper(code)))
	})
	eachList(6, []rune{'x', 'n', '-', 'X', 0xFC}, func(l []rune) { checkOne(t, l) })
}

// P6.1: lists of more than Punycode tells are told below 128 alone.
func TestOneOfLongLists(t *testing.T) {
	long := strings.Repeat("a", 1<<20)
	wantTold(t, One, []rune(long), long)
	most := slices.Repeat([]rune{0xFC}, api.MaxInput)
	code, e := puny.Encode(most)
	if e != nil {
		t.Fatal(e)
	}
	wantTold(t, One, most, "xn--"+code)
	wantError(t, One, append(most, 0xFC), api.ErrForm)
	wantError(t, One, append([]rune(long), 0xFC), api.ErrForm)
	stands := "xn--" + strings.Repeat("b", api.MaxInput)
	wantTold(t, One, []rune(stands), stands)
	wantError(t, One, []rune(stands+"b"), api.ErrForm)
}

// P6.2: names that may be.
func TestAllOfNames(t *testing.T) {
	for s, want := range map[string]string{
		"a": "a", "A": "a", "Example.COM": "example.com", "BÜCHER": "xn--bcher-kva", "BU\u0308CHER": "xn--bcher-kva", "bücher.x": "xn--bcher-kva.x", "x.bücher": "x.xn--bcher-kva",
		"ü.ü": "xn--tda.xn--tda", "日本語.JP": "xn--wgv71a119e.jp", "ß": "xn--zca", "\u1E9E": "ss", "ẞ.ü": "ss.xn--tda", "a b": "a b", "\x00": "\x00", "%41": "%41",
		".": ".", "..": "..", "...": "...", "a.": "a.", ".a": ".a", ".a.": ".a.", "..a..": "..a..", "a..b": "a..b", "a...b": "a...b", "ü..ü.": "xn--tda..xn--tda.", ".ü": ".xn--tda",
		"\u3002": ".", "\uff0e": ".", "\uff61": ".", "a\u3002b": "a.b", "a\uff0eb": "a.b", "a\uff61b": "a.b", "ü\u3002Ü\uff0e\uff61Ü": "xn--tda.xn--tda..xn--tda",
		"a\u00ad": "a", "\u00ada": "a", "\u00ad.\u00ad": ".", "a.\u00ad": "a.", "a\u200b.\u2060b\ufeff": "a.b", "u\u00ad\u0308": "xn--tda",
		"xn--bcher-kva": "xn--bcher-kva", "XN--BCHER-KVA": "xn--bcher-kva", "Xn--tDa.X": "xn--tda.x", "x\u00adn--tda": "xn--tda", "\uff58\uff4e\uff0d\uff0dtda": "xn--tda",
		"xn-": "xn-", "xn-.-tda": "xn-.-tda", "a.xn--tda": "a.xn--tda", "axn--": "axn--", "xn-ü": "xn--xn--joa", "b\u0301": "xn--b-xbb", "\u02ff.\u0370": "xn--jsa.xn--rva",
	} {
		wantTold(t, All, []rune(s), want)
	}
	for _, s := range stands {
		wantTold(t, All, []rune("a."+s+".ü"), "a."+s+".xn--tda")
		wantTold(t, All, []rune(strings.ToUpper(s)), s)
	}
}

// P6.2: names of nothing.
func TestAllOfNothing(t *testing.T) {
	wantError(t, All, nil, api.ErrHost)
	wantError(t, All, []rune{}, api.ErrHost)
	for _, l := range [][]rune{{0xAD}, {0x200B}, {0x2060}, {0xFEFF}, {0xAD, 0x200B, 0x2060, 0xFEFF, 0xAD}} {
		wantError(t, All, l, api.ErrHost)
	}
}

// P6.2: names that fold refuses, wherever that stands.
func TestAllOfWhatMayNotBe(t *testing.T) {
	for _, c := range append(slices.Clone(noScalars), 0x80, 0xA0, 0x1680, 0x2028, 0xE000, 0xFFFD, 0xE0000, 0x10FFFF) {
		wantError(t, All, []rune{c}, api.ErrForm)
		wantError(t, All, []rune{0xAD, c}, api.ErrForm)
		for place := range 6 {
			wantError(t, All, slices.Insert([]rune{'a', '.', 0xFC, '.', 'b'}, place, c), api.ErrForm)
		}
	}
}

// P6.2: names with a part that may not be, at the first, the last and some other place.
func TestAllOfPartsThatMayNotBe(t *testing.T) {
	bad := []string{"\u0300", "\u036f", "\u0301b", "\u00ad\u0301b", "xn--ü", "XN--Ü"}
	for _, s := range falls {
		bad = append(bad, s)
	}
	for _, s := range bad {
		for _, name := range []string{s, s + ".", "." + s, s + ".a", "a." + s, "a." + s + ".b", "ü." + s, s + ".ü", s + "." + s, "a\u3002" + s} {
			wantError(t, All, []rune(name), api.ErrForm)
		}
	}
}

// P6.2: which of several errors is told: fold's one first, then that of the first part that has one.
func TestAllTellsTheFirstError(t *testing.T) {
	const byPuny, byLabel = "xn--!", "xn--"
	textOf := func(call func([]rune) (string, error), s string) string {
		_, e := call([]rune(s))
		if e == nil {
			t.Fatalf("%q: no error", s)
		}
		return e.Error()
	}
	ofPuny, ofLabel, ofFold := textOf(One, byPuny), textOf(One, byLabel), textOf(All, "\u0080")
	if ofPuny == ofLabel || ofLabel == ofFold || ofFold == ofPuny {
		t.Fatalf("errors that can't be told apart: %q, %q, %q", ofPuny, ofLabel, ofFold)
	}
	for s, want := range map[string]string{
		byPuny + "." + byLabel:             ofPuny,
		byLabel + "." + byPuny:             ofLabel,
		"a." + byPuny + ".b." + byLabel:    ofPuny,
		"a." + byLabel + ".b." + byPuny:    ofLabel,
		"\u0301." + byPuny:                 ofLabel,
		byPuny + ".\u0301":                 ofPuny,
		byPuny + "." + byLabel + ".\ue000": ofFold,
		"\u0080." + byPuny:                 ofFold,
		byLabel + ".\u0080":                ofFold,
	} {
		if got := textOf(All, s); got != want {
			t.Errorf("%q: %q, want %q", s, got, want)
		}
	}
}

// P6.2, P6.3: all short lists, and long ones by chance, held against the document's words.
func TestAllWordByWord(t *testing.T) {
	eachList(4, []rune{'a', 'A', '.', '-', 0x3002, 0xFC, 0xDC, 0x301, 0x370, 0xAD, 0x1E9E, 0x80}, func(l []rune) { checkAll(t, l) })
	pieces := []string{"xn--", "XN--", "x", "n", "-", "--", ".", "\u3002", "\uff0e", "\uff61", "a", "A", "ü", "Ü", "u\u0308", "\u0301", "\u00ad", "tda", "bcher-kva", "abc-", "日本", "\U0001F600", "9", " "}
	chance := rand.New(rand.NewSource(6))
	for range 50000 {
		var name strings.Builder
		for range chance.Intn(9) {
			name.WriteString(pieces[chance.Intn(len(pieces))])
		}
		checkAll(t, []rune(name.String()))
	}
}

// P6.3: what All tells of each code point, alone, behind a letter and ahead of one, is told to itself.
func TestToldIsToldToItself(t *testing.T) {
	for c := rune(0); c < 0xE0000; c++ {
		if c >= 0x4000 && c%11 > 0 {
			continue
		}
		checkAll(t, []rune{c})
		checkAll(t, []rune{'a', c, 'Z', '.', c})
	}
	for _, s := range append(slices.Clone(stands), "BÜCHER", "É\u0301.Ä", "\u0391\u0410.Ü", "x\u3002", "\u00ad.ü", "ẞ") {
		wantItself(t, []rune(s))
	}
}

// P6.3: it holds up to the longest Punycode that is decoded; a longer one is told by P6.1, and refused by it then.
func TestToldToItselfAtTheLimit(t *testing.T) {
	for size := api.MaxInput - 12; size < api.MaxInput; size++ {
		l := append(slices.Repeat([]rune{'A'}, size), 0xDC)
		told, e := All(l)
		if e != nil {
			t.Fatal(e)
		}
		if len(told) <= len("xn--")+api.MaxInput {
			wantItself(t, l)
		} else {
			wantError(t, All, []rune(told), api.ErrForm)
		}
	}
}

// P6.3: a name is told alike, whichever way it is written.
func TestNamesThatAreTheSame(t *testing.T) {
	for _, s := range []string{"bücher.de", "BÜCHER.DE", "Bu\u0308cher.de", "bü\u00adcher.de", "bücher\u3002de", "bücher\uff0e\uff44\uff25", "xn--bcher-kva.de", "XN--BCHER-KVA.DE"} {
		wantTold(t, All, []rune(s), "xn--bcher-kva.de")
	}
}

// P1: long names are told, too.
func TestAllOfLongNames(t *testing.T) {
	const long = 1 << 18
	dots := strings.Repeat(".", long)
	wantTold(t, All, []rune(dots), dots)
	wantTold(t, All, []rune(strings.Repeat("Ü.", long)), strings.Repeat("xn--tda.", long))
	wantTold(t, All, []rune(strings.Repeat("A", long)), strings.Repeat("a", long))
	wantError(t, All, slices.Repeat([]rune{0xFC}, long), api.ErrForm)
	wantError(t, All, []rune(dots+"xn--"), api.ErrForm)
	wantItself(t, slices.Repeat([]rune{0xDC}, 1<<10))
}

// R3: the list that is handed in stays as it is, and so does what lies behind it.
func TestListsThatAreHandedInStay(t *testing.T) {
	for _, s := range []string{"", "abc", "A.B", "BU\u0308CHER.\u00adÜ", "xn--bcher-kva", "XN--TDA.x", "a\u3002\u0301", "a\u0080", "xn--!", "...", "xn--ü"} {
		room := append([]rune(s), 1, 2, 3)
		kept := slices.Clone(room)
		l := room[:len(room)-3]
		One(l)
		All(l)
		if !slices.Equal(room, kept) {
			t.Errorf("%q was changed to %q", kept, room)
		}
	}
}

// R3: what was told stays when the list that was handed in is used again.
func TestWhatWasToldStays(t *testing.T) {
	l := []rune("abc.d")
	one, _ := One(l)
	all, _ := All(l)
	for at := range l {
		l[at] = 'x'
	}
	if one != "abc.d" || all != "abc.d" {
		t.Errorf("told: %q, %q", one, all)
	}
}
