package host

import (
	"errors"
	"math"
	"math/rand"
	"slices"
	"strings"
	"testing"

	"gatepost/api"
	"gatepost/fail"
	"gatepost/ipfour"
	"gatepost/ipsix"
	"gatepost/label"
	"gatepost/pct"
	"gatepost/utf"
)

// errnos are all numbers that an error may wrap.
var errnos = []api.Errno{api.ErrArg, api.ErrForm, api.ErrHost, api.ErrPort, api.ErrBase, api.ErrTooLong, api.ErrStale, api.ErrFull, api.ErrClosed, api.ErrNone}

// always are the numbers that bar whatever the scheme, by the document's list, one by one.
var always = []rune{0, 9, 10, 13, 32, '#', '/', ':', '<', '>', '?', '@', '[', '\\', ']', '^', 124}

// noScalars are numbers that are no code points with bytes.
var noScalars = []rune{-1, -37, -65, math.MinInt32, math.MinInt32 + 37, 0xD800, 0xDBFF, 0xDC00, 0xDFFF, 0x110000, 0x110025, 0x7FFFFF41, math.MaxInt32}

// barsBy is Bars, by the document's words.
func barsBy(c rune, special bool) bool {
	return slices.Contains(always, c) || special && (c >= 0 && c <= 31 || c == 37 || c == 127)
}

// parseBy is Parse, by the document's words, one after the other; false, where there is an error.
func parseBy(l []rune, special bool) (h api.Host, ok bool) {
	if len(l) > 0 && l[0] == '[' {
		if len(l) == 1 || l[len(l)-1] != ']' {
			return api.Host{}, false
		}
		address, e := ipsix.Parse(utf.Encode(l[1 : len(l)-1]))
		if e != nil {
			return api.Host{}, false
		}
		return api.Host{Kind: api.V6, V6: address}, true
	}
	if !special {
		for _, c := range l {
			if barsBy(c, false) {
				return api.Host{}, false
			}
		}
		if len(l) == 0 {
			return api.Host{Kind: api.Empty}, true
		}
		return api.Host{Kind: api.Opaque, Name: pct.Encode(pct.C0, l)}, true
	}
	d, e := label.All(utf.Decode(pct.Decode(utf.Encode(l))))
	if e != nil {
		return api.Host{}, false
	}
	for at := range len(d) {
		if barsBy(rune(d[at]), true) {
			return api.Host{}, false
		}
	}
	if !ipfour.Ends(d) {
		return api.Host{Kind: api.Domain, Name: d}, true
	}
	address, e := ipfour.Parse(d)
	if e != nil {
		return api.Host{}, false
	}
	return api.Host{Kind: api.V4, V4: address}, true
}

// short are code points that may be many, as far as they are of use in a message.
func short(l []rune) string {
	if len(l) > 60 {
		return string(l[:60]) + ".."
	}
	return string(l)
}

// wantHost asks Parse of code points that are a host; P9.4: what is told of it is parsed to itself.
func wantHost(t *testing.T, l []rune, special bool, want api.Host) {
	t.Helper()
	got, e := Parse(l, special)
	if e != nil || got != want {
		t.Errorf("Parse(%q, %v): %+v, %v, want %+v", short(l), special, got, e, want)
		return
	}
	text := Text(got)
	if again, e := Parse([]rune(text), special); e != nil || again != got || Text(again) != text {
		t.Errorf("Parse(%q, %v): %+v, told as %q and parsed: %+v, %v", short(l), special, got, text, again, e)
	}
}

// wantNone asks Parse of code points that are no host.
func wantNone(t *testing.T, l []rune, special bool) {
	t.Helper()
	got, e := Parse(l, special)
	if got != (api.Host{}) || got.Kind != api.NoHost || e == nil || fail.Code(e) != api.ErrHost {
		t.Errorf("Parse(%q, %v): %+v, %v, want an error that wraps %v", short(l), special, got, e, api.ErrHost)
	}
	for _, number := range errnos {
		if errors.Is(e, number) != (number == api.ErrHost) {
			t.Errorf("Parse(%q, %v): %v, and %v", short(l), special, e, number)
		}
	}
}

// wantNeither asks it, special and not.
func wantNeither(t *testing.T, l []rune) {
	t.Helper()
	wantNone(t, l, false)
	wantNone(t, l, true)
}

// check holds Parse of code points against the document's words, special and not.
func check(t *testing.T, l []rune) {
	t.Helper()
	for _, special := range []bool{false, true} {
		kept := slices.Clone(l)
		if want, ok := parseBy(l, special); ok {
			wantHost(t, l, special, want)
		} else {
			wantNone(t, l, special)
		}
		if !slices.Equal(l, kept) {
			t.Errorf("Parse(%q, %v) changed what it was handed", short(kept), special)
		}
	}
}

// domain is a host of a name, quad one of an address of four bytes, six one of an address of eight pieces, other one of a scheme that isn't special.
func domain(name string) api.Host    { return api.Host{Kind: api.Domain, Name: name} }
func quad(address uint32) api.Host   { return api.Host{Kind: api.V4, V4: address} }
func six(address [8]uint16) api.Host { return api.Host{Kind: api.V6, V6: address} }
func other(name string) api.Host     { return api.Host{Kind: api.Opaque, Name: name} }

// runes are some code points between two texts.
func runes(head string, between []rune, tail string) []rune {
	return slices.Concat([]rune(head), between, []rune(tail))
}

// wantBars asks Bars of a number, special and not.
func wantBars(t *testing.T, c rune, plain, special bool) {
	t.Helper()
	if got := Bars(c, false); got != plain {
		t.Errorf("Bars(%d, false): %v, want %v", c, got, plain)
	}
	if got := Bars(c, true); got != special {
		t.Errorf("Bars(%d, true): %v, want %v", c, got, special)
	}
}

// P9.1: each number from -1 to 130, as it is drawn: a for what bars always, s for what bars in a special host alone, and a dot for what may be.
func TestBarsOfEachNumber(t *testing.T) {
	const drawn = "." + // -1
		"assssssssaassass" + // 0 to 15
		"ssssssssssssssss" + // 16 to 31
		"a..a.s.........a" + // the blank to /
		"..........a.a.aa" + // 0 to ?
		"a..............." + // @ to O
		"...........aaaa." + // P to _
		"................" + // 96 to o
		"............a..s" + // p to 127
		"..." // 128 to 130
	if len(drawn) != 132 {
		t.Fatalf("%d are drawn", len(drawn))
	}
	for at := range len(drawn) {
		c := rune(at - 1)
		wantBars(t, c, drawn[at] == 'a', drawn[at] != '.')
		wantBars(t, c, barsBy(c, false), barsBy(c, true))
	}
}

// P9.1: the least and the greatest rune, and numbers whose last byte, or last two, are those of a sign that bars.
func TestBarsOfFarNumbers(t *testing.T) {
	for _, c := range []rune{math.MinInt32, math.MaxInt32, 0x10FFFF, 0x110000, 0xD800, 0xDFFF, 0xFFFD, 0xFEFF, 0x85, 0xA0, 0x2028, 0xFF03, 0xFF0F, 0xFF1A, 0xFF05} {
		wantBars(t, c, false, false)
	}
	for c := rune(-1); c <= 130; c++ {
		for _, more := range []rune{-128, 128, 256, -256, 512, 0xFF00, 0x10000, -0x10000, 0x100000, 0x1000000, 0x7FFFFF00, math.MinInt32} {
			far := c + more
			wantBars(t, far, barsBy(far, false), barsBy(far, true))
			if far < 0 || far > 127 {
				wantBars(t, far, false, false)
			}
		}
	}
}

// P9.2: no code points at all, nil and empty.
func TestParseOfNothing(t *testing.T) {
	for _, l := range [][]rune{nil, {}, make([]rune, 0, 4)} {
		wantHost(t, l, false, api.Host{Kind: api.Empty})
		wantNone(t, l, true)
	}
}

// P9.2: an address between brackets is the same host, special or not.
func TestParseOfAddressesInBrackets(t *testing.T) {
	for s, want := range map[string][8]uint16{
		"::":                  {},
		"::1":                 {7: 1},
		"1::":                 {1},
		"1::2":                {0: 1, 7: 2},
		"1:2:3:4:5:6:7:8":     {1, 2, 3, 4, 5, 6, 7, 8},
		"FFFF::aBcD":          {0: 0xFFFF, 7: 0xABCD},
		"0001:0:0:2:0:0:3:4":  {1, 0, 0, 2, 0, 0, 3, 4},
		"::ffff:127.0.0.1":    {5: 0xFFFF, 6: 0x7F00, 7: 1},
		"1:2:3:4:5:6:9.8.7.6": {1, 2, 3, 4, 5, 6, 0x908, 0x706},
	} {
		for _, special := range []bool{false, true} {
			wantHost(t, []rune("["+s+"]"), special, six(want))
		}
	}
}

// P9.2: brackets with no address between, or that are wanting, or with others around.
func TestParseOfBracketsThatAreNoHost(t *testing.T) {
	for _, s := range []string{
		"[", "[]", "]", "[[", "]]", "][", "[[]", "[]]", "[[]]", "[][]", "[ ]", "[:]", "[:::]", "[1]", "[x]", "[a.b]", "[1.2.3.4]", "[::1", "[::1.", "[::1 ", "[::1]x", "[::1]1", "[::1]:80", "[::1] ", "[::1].", "[::1]]", "[::1][", "[::1][::1]", "[:]:1]", "[::]1]", "[]::1]", "[[::1]", "[[::1]]", "x[::1]", " [::1]", "%5B::1]", "[::1%5D", "%5B::1%5D", "[%3A:1]", "[%3A%3A]", "[::1%25eth0]", "[::1%]", "[ ::1]", "[::1 ]", "[::g]", "[1:2:3:4:5:6:7]", "[1:2:3:4:5:6:7:8:9]", "[::\x001]", "[::1\n]", "[::256.1.1.1]", "[::1.2.3.4.]", "[::01.2.3.4]", "\uff3b::1\uff3d", "[\uff1a\uff1a]", "[::\uff11]", "[::1\uff3d", "[::\u00ad1]", "[::1\u00ad]", "[::\ufffd]",
	} {
		wantNeither(t, []rune(s))
	}
	for _, c := range slices.Concat(noScalars, []rune{'[' + 256, ']' + 256, 0x10000 + '[', 0x10000 + ']'}) {
		for _, l := range [][]rune{{'[', c, ']'}, runes("[::", []rune{c}, "]"), runes("[", []rune{c}, "::1]"), runes("[::1", []rune{c}, ""), runes("[::1", []rune{c, ']'}, ""), runes("[::1]", []rune{c}, ""), runes("[1", []rune{c}, "::]")} {
			wantNeither(t, l)
		}
		check(t, runes("", []rune{c}, "::1]"))
	}
	for c := rune(-1); c <= 130; c++ {
		for _, l := range [][]rune{{'[', c, ']'}, {'[', c}, {c, ']'}, runes("[::", []rune{c}, "]"), runes("[::1", []rune{c}, ""), runes("[::1]", []rune{c}, ""), runes("[", []rune{c}, "::1]"), runes("[1", []rune{c}, ":1]")} {
			check(t, l)
		}
	}
}

// wantAmid asks Parse of a number that bars, alone and amid others; a bracket ahead is another matter, but no host either.
func wantAmid(t *testing.T, c rune, special bool) {
	t.Helper()
	for _, l := range [][]rune{{c}, {c, 'a'}, {'a', c}, {'a', c, 'b'}, {c, c}, runes("a.", []rune{c}, ".b"), runes("%41", []rune{c}, ""), runes("1.2.3.", []rune{c}, "4"), runes(strings.Repeat("a", 1000), []rune{c}, strings.Repeat("b", 1000))} {
		wantNone(t, l, special)
	}
}

// P9.2, not special: each number that bars, alone and amid others; those that bar in a special host alone are told by percent signs.
func TestParseOfOtherHostsThatAreBarred(t *testing.T) {
	for _, c := range always {
		wantAmid(t, c, false)
	}
	for c := rune(0); c <= 127; c++ {
		if slices.Contains(always, c) {
			continue
		}
		want := string(c)
		if c < 32 || c == 127 {
			want = "%" + string("01234567"[c>>4]) + string("0123456789ABCDEF"[c&15])
		}
		wantHost(t, []rune{c}, false, other(want))
		wantHost(t, []rune{'A', c, 'b'}, false, other("A"+want+"b"))
	}
}

// P9.2, not special: capitals and percent signs stay, whatever they tell, and so do numbers with dots between.
func TestParseOfOtherHostsThatStay(t *testing.T) {
	for _, s := range []string{"a", "A", "Example.COM", "%", "%%", "%4", "%41", "%2e", "%2E", "%00", "%20", "%5B", "%zz", "a%", "a%2", "%E9", "%C3%A9", "0X7f.1", "0x7f.1", "1.2.3.4", "1.2.3.4.5", "256.256.256.256", "08", "1", ".", "..", "a.", ".a", "xn--", "XN--BCHER-KVA", "xn--abc-", "a!$&'()*+,;=~_-\"`{}", "localhost", "-"} {
		wantHost(t, []rune(s), false, other(s))
	}
}

// P9.2, not special: numbers from 128 on are told by their bytes, and those that are no scalars by U+FFFD's.
func TestParseOfOtherHostsByPercentSigns(t *testing.T) {
	for c, want := range map[rune]string{0x7F: "%7F", 0x80: "%C2%80", 0xE9: "%C3%A9", 0xC9: "%C3%89", 0xFF: "%C3%BF", 0x7FF: "%DF%BF", 0x800: "%E0%A0%80", 0x3002: "%E3%80%82", 0xFF21: "%EF%BC%A1", 0xFF0F: "%EF%BC%8F", 0xAD: "%C2%AD", 0x301: "%CC%81", 0xFFFD: "%EF%BF%BD", 0xFFFF: "%EF%BF%BF", 0x10000: "%F0%90%80%80", 0x10FFFF: "%F4%8F%BF%BF"} {
		wantHost(t, []rune{c}, false, other(want))
		wantHost(t, []rune{'A', c, '.', c}, false, other("A"+want+"."+want))
	}
	for _, c := range noScalars {
		wantHost(t, []rune{c}, false, other("%EF%BF%BD"))
		wantHost(t, []rune{'a', c, c, 'b'}, false, other("a%EF%BF%BD%EF%BF%BDb"))
	}
}

// P9.2, special: names.
func TestParseOfDomains(t *testing.T) {
	for s, want := range map[string]string{
		"a":                                 "a",
		"example.com":                       "example.com",
		"Example.COM":                       "example.com",
		"EXAMPLE":                           "example",
		"a.":                                "a.",
		"a..":                               "a..",
		".":                                 ".",
		"..":                                "..",
		".a":                                ".a",
		"a..b":                              "a..b",
		"localhost":                         "localhost",
		"LocalHost":                         "localhost",
		"a_b!":                              "a_b!",
		"a!$&'()*+,;=~_-\"`{}":              "a!$&'()*+,;=~_-\"`{}",
		"-":                                 "-",
		"-a-":                               "-a-",
		"%41":                               "a",
		"%61%62":                            "ab",
		"%41%2Eb":                           "a.b",
		"a%2eB":                             "a.b",
		"a%2E":                              "a.",
		"%2e":                               ".",
		"b\u00fccher":                       "xn--bcher-kva",
		"B\u00dcCHER":                       "xn--bcher-kva",
		"bu\u0308cher":                      "xn--bcher-kva",
		"b%C3%BCcher":                       "xn--bcher-kva",
		"b%c3%9cCHER":                       "xn--bcher-kva",
		"bu%CC%88cher":                      "xn--bcher-kva",
		"xn--bcher-kva":                     "xn--bcher-kva",
		"XN--BCHER-KVA":                     "xn--bcher-kva",
		"%78n--bcher-kva":                   "xn--bcher-kva",
		"xn-%2dbcher%2Dkva":                 "xn--bcher-kva",
		"\uff38\uff4e--bcher-kva":           "xn--bcher-kva",
		"a.b\u00fccher.C":                   "a.xn--bcher-kva.c",
		"a\u3002b":                          "a.b",
		"a\uff61b\uff0ec":                   "a.b.c",
		"a%E3%80%82b":                       "a.b",
		"\uff21\uff22":                      "ab",
		"%EF%BC%A1":                         "a",
		"a\u00adb":                          "ab",
		"a%C2%ADb":                          "ab",
		"\u1e9e":                            "ss",
		"0x7g":                              "0x7g",
		"1.2.3.4a":                          "1.2.3.4a",
		"1.a":                               "1.a",
		"1.2.3.4..":                         "1.2.3.4..",
		"1..a":                              "1..a",
		"0xg":                               "0xg",
		"00x1":                              "00x1",
		"1.2.-3":                            "1.2.-3",
		"+1":                                "+1",
		"1e1":                               "1e1",
		"0b1":                               "0b1",
		"1_0":                               "1_0",
		strings.Repeat("a", 64) + ".B":      strings.Repeat("a", 64) + ".b",
		strings.Repeat("a.", 200):           strings.Repeat("a.", 200),
		strings.Repeat("%41", 1000) + "..x": strings.Repeat("a", 1000) + "..x",
	} {
		wantHost(t, []rune(s), true, domain(want))
	}
}

// P9.2, special: each number that bars, as it is, by percent signs and, of those that have one, by its full-width form.
func TestParseOfDomainsThatAreBarred(t *testing.T) {
	const figures = "0123456789ABCDEF"
	for c := rune(0); c <= 127; c++ {
		signs := []rune{'%', rune(figures[c>>4]), rune(figures[c&15])}
		small := []rune(strings.ToLower(string(signs)))
		wide := c + 0xFEE0
		forms := [][]rune{{c}, signs, small}
		if c > 32 && c < 127 {
			forms = append(forms, []rune{wide}, []rune(pct.Encode(pct.C0, []rune{wide})))
		}
		for _, form := range forms {
			for _, l := range [][]rune{form, runes("a", form, ""), runes("", form, "a"), runes("a", form, "b"), runes("a.", form, ".b"), runes("1.2.3.", form, "4"), runes("b\u00fc", form, ".xn--bcher-kva")} {
				if barsBy(c, true) {
					wantNone(t, l, true)
				} else {
					check(t, l)
				}
			}
		}
		if barsBy(c, true) {
			wantAmid(t, c, true)
		} else if c != '.' && (c < '0' || c > '9') {
			want := strings.ToLower("a" + string(c) + "b")
			for _, form := range forms {
				wantHost(t, runes("a", form, "b"), true, domain(want))
			}
		}
	}
	for _, s := range []string{"%", "a%", "%%", "%4", "%zz", "%2", "a%2", "%25", "%2541", "%2525", "%%41", "%4%31", "a%00", "a%20b", "a%2Fb", "a%3ab", "a%40b", "a%5bb", "a%7fb", "a%09", "\uff0541", "%EF%BC%85", "a b", "a\tb", "a\x7f", "a\x01", "a<b", "a@b", "a:b", "a/b", "a?b", "a#b", "a\\b", "a|b", "a^b", "a]"} {
		wantNone(t, []rune(s), true)
	}
}

// P9.2, special: what label.All refuses, and what is empty when it is told.
func TestParseOfNamesThatAreRefused(t *testing.T) {
	for _, s := range []string{"\u0080", "\u00a0", "a\u2028b", "\ue000", "\ufdd0", "\U000e0000", "%C2%80", "a%C2%A0", "%EE%80%80", "\u0301", "a.\u0301b", "%CC%81a", "\u00ad", "\u200b\u2060", "\ufeff", "%C2%AD", "%EF%BB%BF", "xn--", "xn--a", "xn--abc-", "a.xn--", "XN--", "%58N--", "xn--bcher-kv", "xn--bcher-kva\u00fc", "xn--bcher-kva%C3%BC", "xn--wca", "xn--\u00fc", "\uff58n--"} {
		wantNone(t, []rune(s), true)
	}
}

// P9.2, special: bytes that are no code points, and numbers that are no scalars, are U+FFFD, which the mapping refuses.
func TestParseOfNamesThatAreNoCodePoints(t *testing.T) {
	for _, s := range []string{"\ufffd", "%EF%BF%BD", "%FF", "a%FFb", "%C3", "%C3%28", "%E2%82A", "%80", "a%E9b", "%ED%A0%80", "%F4%90%80%80", "%C0%AE", "b%FCcher", "\u00c3%BC", "xn--%FF", "1.2.3.%FF4"} {
		wantNone(t, []rune(s), true)
	}
	for _, c := range noScalars {
		for _, l := range [][]rune{{c}, {'a', c}, {c, 'a'}, runes("a.", []rune{c}, ".b"), runes("xn--", []rune{c}, "")} {
			wantNone(t, l, true)
		}
	}
	for low := range 256 {
		const figures = "0123456789abcdef"
		check(t, []rune{'a', '%', rune(figures[low>>4]), rune(figures[low&15]), 'b'})
	}
}

// P9.2, special: numbers with dots between.
func TestParseOfAddresses(t *testing.T) {
	for s, want := range map[string]uint32{
		"0":                                  0,
		"00":                                 0,
		"0x":                                 0,
		"0X":                                 0,
		"1":                                  1,
		"010":                                8,
		"0x10":                               16,
		"4294967295":                         0xFFFFFFFF,
		"0xFFFFFFFF":                         0xFFFFFFFF,
		"037777777777":                       0xFFFFFFFF,
		"1.2":                                0x01000002,
		"127.1":                              0x7F000001,
		"0x7f.1":                             0x7F000001,
		"0X7f.1":                             0x7F000001,
		"0x7F.1":                             0x7F000001,
		"255.16777215":                       0xFFFFFFFF,
		"1.2.3":                              0x01020003,
		"1.2.65535":                          0x0102FFFF,
		"1.2.3.4":                            0x01020304,
		"01.02.03.04":                        0x01020304,
		"0x1.0X2.0x3.0x4":                    0x01020304,
		"0377.0xff.255.0":                    0xFFFFFF00,
		"255.255.255.255":                    0xFFFFFFFF,
		"192.168.0.1":                        0xC0A80001,
		"0xC0a80001":                         0xC0A80001,
		"%31":                                1,
		"%30%78%37F.1":                       0x7F000001,
		"1%2e2%2E3.4":                        0x01020304,
		"\uff11\uff0e\uff12":                 0x01000002,
		"1\u30022\uff613.4":                  0x01020304,
		"1\u00ad2":                           12,
		"%EF%BC%91":                          1,
		"0\uff587f.1":                        0x7F000001,
		"0%58\uff26\uff26":                   255,
		strings.Repeat("0", 90):              0,
		"0x" + strings.Repeat("0", 90) + "1": 1,
	} {
		for _, end := range []string{"", ".", "%2E", "\u3002"} {
			wantHost(t, []rune(s+end), true, quad(want))
		}
	}
}

// P9.2, special: names that end as an address does, and are none, are no names either.
func TestParseOfAddressesThatAreNone(t *testing.T) {
	for _, s := range []string{"1.2.3.4.5", "0.0.0.0.0", "0x1.0x2.0x3.0x4.0x5", "01.02.03.04.05", "4294967296", "0x100000000", "040000000000", "256.1", "1.16777216", "1.256.1", "1.2.65536", "1.2.3.256", "256.2.3.4", "1.2.3.0x100", "1.2.3.0400", "08", "09", "018", "1.08", "1.2.3.08", "08.1", "a.1", "a.b.0x1", "a.0x", "example.0", "a.256.1.0x100000000", "1..2", ".1", "..1", "1.2..3", "foo.09", "1.a.2", "xn--bcher-kva.1", "b\u00fc.1", "%61.1", "-.1", "1.2.3.99999999999999999999999999", "18446744073709551616", "18446744073709551617", strings.Repeat("9", 5000), "a." + strings.Repeat("9", 5000), "0x" + strings.Repeat("f", 5000), strings.Repeat("1.", 300) + "1"} {
		for _, end := range []string{"", ".", "%2E", "\u3002"} {
			wantNone(t, []rune(s+end), true)
		}
	}
}

// P9.2: the chapter's example.
func TestParseOfTheExample(t *testing.T) {
	l := []rune("0X7f.1")
	wantHost(t, l, true, quad(0x7F000001))
	wantHost(t, l, false, other("0X7f.1"))
	if text := Text(quad(0x7F000001)); text != "127.0.0.1" {
		t.Errorf("%q", text)
	}
}

// edges are code points by which the ways part.
var edges = []rune{'[', ']', ':', '%', '2', '5', 'e', 'E', '.', '0', '1', 'x', 'X', 'a', 'A', '-', ' ', '#', '@', 1, 127, 0x80, 0xFC, 0xAD, 0x301, 0x3002, 0xFF11, 0xFF0F, -1, 0xD800}

// P9.2, P9.4: all short lists of edges, held against the document's words.
func TestParseOfAllShortLists(t *testing.T) {
	var extend func(l []rune, left int)
	extend = func(l []rune, left int) {
		check(t, l)
		if left == 0 {
			return
		}
		for _, c := range edges {
			extend(append(slices.Clip(l), c), left-1)
		}
	}
	extend(nil, 3)
}

// P9.2, P9.4: lists by chance, of code points and of words, held against the document's words.
func TestParseOfListsByChance(t *testing.T) {
	words := []string{"a", "B", ".", "1", "0x", "0X7f", "08", "256", "4294967295", "xn--", "XN--", "bcher-kva", "\u00fc", "u\u0308", "%", "%41", "%2E", "%2e", "%C3%BC", "%FF", "%20", "%00", "[", "]", "::", "::1", ":", "\u3002", "\uff21", "\uff0e", "\u00ad", "-", "_", "@", "/", "\\", "|", "\x7f", "\x1f", "9", "0"}
	chance := rand.New(rand.NewSource(9))
	for range 60000 {
		var l []rune
		for range chance.Intn(8) {
			l = append(l, []rune(words[chance.Intn(len(words))])...)
			if chance.Intn(12) == 0 {
				l = append(l, edges[chance.Intn(len(edges))])
			}
		}
		check(t, l)
		check(t, runes("[", l, "]"))
	}
}

// P9.2: every code point by itself, and by its neighbours.
func TestParseOfEachCodePoint(t *testing.T) {
	for c := rune(-300); c < 0x110000+300; c++ {
		if c > 0x3100 && c < 0xD700 || c > 0x10100 && c < 0x10FF00 && c%997 != 0 {
			continue
		}
		check(t, []rune{c})
		check(t, []rune{'a', c, 'b'})
	}
}

// P1, P9.2: long lists.
func TestParseOfLongLists(t *testing.T) {
	const long = 1 << 20
	name := strings.Repeat("a", long)
	wantHost(t, []rune(strings.ToUpper(name)), true, domain(name))
	wantHost(t, []rune(name), false, other(name))
	wantHost(t, []rune(strings.Repeat("%61", long)), true, domain(name))
	wantHost(t, []rune(strings.Repeat("\u00e9", long)), false, other(strings.Repeat("%C3%A9", long)))
	wantHost(t, []rune(strings.Repeat(".", long)), true, domain(strings.Repeat(".", long)))
	wantHost(t, []rune(strings.Repeat("0", long)), true, quad(0))
	for _, s := range []string{strings.Repeat("[", long), "[" + strings.Repeat(":", long) + "]", "[" + name + "]", name + " ", strings.Repeat("[", long) + strings.Repeat("]", long)} {
		wantNeither(t, []rune(s))
	}
	for _, s := range []string{strings.Repeat("9", long), strings.Repeat("1.", long), strings.Repeat("%", long), strings.Repeat("\u00ad", long)} {
		wantNone(t, []rune(s), true)
	}
}

// R3: a piece of a greater list is parsed, and what stands behind it stays, and is not looked at.
func TestParseOfAPiece(t *testing.T) {
	whole := []rune("[::1]#B\u00fc%41.C#")
	kept := slices.Clone(whole)
	for from := range len(whole) {
		for to := from; to <= len(whole); to++ {
			check(t, whole[from:to])
			check(t, whole[from:to:to])
		}
	}
	if !slices.Equal(whole, kept) {
		t.Errorf("%q, was %q", string(whole), string(kept))
	}
}

// wantText asks Text of a host.
func wantText(t *testing.T, h api.Host, want string) {
	t.Helper()
	if got := Text(h); got != want {
		t.Errorf("Text(%+v): %q, want %q", h, got, want)
	}
}

// P9.3: each kind, with the fields that it looks at alone, and with all of them; kinds that are none.
func TestText(t *testing.T) {
	all := api.Host{Name: "n", V4: 0x01020304, V6: [8]uint16{0: 1, 7: 2}}
	for kind, want := range map[int]string{api.NoHost: "", api.Empty: "", api.Domain: "n", api.V4: "1.2.3.4", api.V6: "[1::2]", api.Opaque: "n", -1: "", 6: "", 7: "", 9: "", 258: "", -2: "", math.MaxInt: "", math.MinInt: "", 1 << 32: "", 1<<32 + 2: "", 1<<32 + 4: ""} {
		h := all
		h.Kind = kind
		wantText(t, h, want)
		wantText(t, api.Host{Kind: kind}, map[int]string{api.V4: "0.0.0.0", api.V6: "[::]"}[kind])
	}
	for _, name := range []string{"", "a", "A.b", "%41", "\u00fc", "\x00\xff", "[", "xn--", strings.Repeat("a", 70000)} {
		wantText(t, api.Host{Kind: api.Domain, Name: name}, name)
		wantText(t, api.Host{Kind: api.Opaque, Name: name}, name)
		wantText(t, api.Host{Kind: api.Empty, Name: name}, "")
		wantText(t, api.Host{Name: name}, "")
		wantText(t, api.Host{Kind: api.V4, Name: name, V4: 1}, "0.0.0.1")
		wantText(t, api.Host{Kind: api.V6, Name: name, V4: 1}, "[::]")
	}
	for address, want := range map[uint32]string{0: "0.0.0.0", 1: "0.0.0.1", 0x7F000001: "127.0.0.1", 0xFFFFFFFF: "255.255.255.255"} {
		wantText(t, quad(address), want)
	}
	for address, want := range map[[8]uint16]string{{}: "[::]", {7: 1}: "[::1]", {1, 0, 0, 2, 0, 0, 3, 4}: "[1::2:0:0:3:4]", {1, 2, 3, 4, 5, 6, 7, 8}: "[1:2:3:4:5:6:7:8]", {0: 0xFFFF, 7: 0xABCD}: "[ffff::abcd]"} {
		wantText(t, six(address), want)
	}
}

// P9.4: addresses, there and back, special and not; as hosts that aren't special those of four bytes are names.
func TestAddressesThereAndBack(t *testing.T) {
	chance := rand.New(rand.NewSource(94))
	for range 5000 {
		var pieces [8]uint16
		for place := range pieces {
			if chance.Intn(2) > 0 {
				pieces[place] = uint16(chance.Uint32() >> chance.Intn(17))
			}
		}
		for _, special := range []bool{false, true} {
			wantHost(t, []rune(Text(six(pieces))), special, six(pieces))
		}
		address := chance.Uint32() >> chance.Intn(33)
		text := Text(quad(address))
		wantHost(t, []rune(text), true, quad(address))
		wantHost(t, []rune(text), false, other(text))
	}
}

// P9.4: a domain has no letter from 128 on, no capital one, and none that bars, and is an opaque host, too.
func TestDomainsAreNames(t *testing.T) {
	for _, s := range []string{"Example.COM", "B\u00dcCHER.x", "%41%2EB", "a_b!", "xn--bcher-kva", "a.."} {
		h, e := Parse([]rune(s), true)
		if e != nil || h.Kind != api.Domain {
			t.Fatalf("%q: %+v, %v", s, h, e)
		}
		for at := range len(h.Name) {
			b := h.Name[at]
			if b >= 128 || 'A' <= b && b <= 'Z' || Bars(rune(b), true) {
				t.Errorf("%q: %q", s, h.Name)
			}
		}
		wantHost(t, []rune(Text(h)), false, other(h.Name))
	}
}

// P9.4's edge: of a part whose Punycode is longer than puny.Decode takes the name is told, by P6.1, and what is told is refused then.
func TestParseOfPunycodeThatIsTooLong(t *testing.T) {
	for count, takes := range map[int]bool{api.MaxInput - 10: true, api.MaxInput - 5: false, api.MaxInput - 1: false} {
		h, e := Parse([]rune(strings.Repeat("a", count)+"\u00fc"), true)
		if e != nil || h.Kind != api.Domain || !strings.HasPrefix(h.Name, "xn--aaa") {
			t.Fatalf("%d: kind %d, %v", count, h.Kind, e)
		}
		if takes {
			wantHost(t, []rune(Text(h)), true, h)
		} else {
			wantNone(t, []rune(Text(h)), true)
		}
	}
}
