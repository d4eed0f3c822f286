package utf

import (
	"slices"
	"strings"
	"testing"
	"unicode/utf8"
)

const bad = 0xFFFD

// edges are the first and last scalar of each length, and those beside the numbers that are none, with the bytes that the document gives them.
var edges = []struct {
	scalar rune
	bytes  string
}{
	{0, "\x00"}, {'A', "A"}, {0x7F, "\x7f"},
	{0x80, "\xc2\x80"}, {0xE9, "\xc3\xa9"}, {0x7FF, "\xdf\xbf"},
	{0x800, "\xe0\xa0\x80"}, {0xFFF, "\xe0\xbf\xbf"}, {0x1000, "\xe1\x80\x80"}, {0x20AC, "\xe2\x82\xac"},
	{0xCFFF, "\xec\xbf\xbf"}, {0xD000, "\xed\x80\x80"}, {0xD7FF, "\xed\x9f\xbf"}, {0xE000, "\xee\x80\x80"},
	{0xFEFF, "\xef\xbb\xbf"}, {bad, "\xef\xbf\xbd"}, {0xFFFF, "\xef\xbf\xbf"},
	{0x10000, "\xf0\x90\x80\x80"}, {0x1F600, "\xf0\x9f\x98\x80"}, {0x3FFFF, "\xf0\xbf\xbf\xbf"}, {0x40000, "\xf1\x80\x80\x80"},
	{0xFFFFF, "\xf3\xbf\xbf\xbf"}, {0x100000, "\xf4\x80\x80\x80"}, {0x10FFFF, "\xf4\x8f\xbf\xbf"},
}

// noScalars are numbers on both sides of what a scalar may be.
var noScalars = []rune{-1, -0x80, -1 << 31, 0xD800, 0xDBFF, 0xDC00, 0xDFFF, 0x110000, 0x1FFFFF, 1<<31 - 1}

// bounds are the bytes at which something begins or ends to be allowed.
var bounds = []byte{
	0x00, 'A', 0x7F, 0x80, 0x81, 0x8F, 0x90, 0x9F, 0xA0, 0xBE, 0xBF, 0xC0, 0xC1, 0xC2, 0xDF, 0xE0, 0xE1, 0xEC, 0xED, 0xEE, 0xEF,
	0xF0, 0xF1, 0xF3, 0xF4, 0xF5, 0xF8, 0xFE, 0xFF,
}

func isScalar(r rune) bool {
	return r >= 0 && r <= 0x10FFFF && (r < 0xD800 || r > 0xDFFF)
}

// begins are all begins, but the whole, of all scalars' bytes.
func begins() map[string]bool {
	all := map[string]bool{}
	for r := rune(0); r <= 0x10FFFF; r++ {
		if isScalar(r) {
			for s := string(r); len(s) > 1; {
				s = s[:len(s)-1]
				all[s] = true
			}
		}
	}
	return all
}

// decoded is P2.1 word by word: a scalar's bytes, or else the longest begin of some scalar's that stands there, or one byte.
func decoded(begins map[string]bool, s string) []rune {
	var l []rune
	for s != "" {
		size := 1
		scalar := rune(bad)
		for n := 1; n <= min(4, len(s)); n++ {
			if utf8.ValidString(s[:n]) && utf8.RuneCountInString(s[:n]) == 1 {
				scalar, _ = utf8.DecodeRuneInString(s[:n])
				size = n
				break
			}
			if begins[s[:n]] {
				size = n
			}
		}
		l = append(l, scalar)
		s = s[size:]
	}
	return l
}

// texts calls for every text of up to two bytes, and for every one of three and four of bounds.
func texts(do func(s string)) {
	do("")
	for a := range 256 {
		do(string([]byte{byte(a)}))
		for b := range 256 {
			do(string([]byte{byte(a), byte(b)}))
		}
	}
	for _, a := range bounds {
		for _, b := range bounds {
			for _, c := range bounds {
				do(string([]byte{a, b, c}))
				for _, d := range bounds {
					do(string([]byte{a, b, c, d}))
				}
			}
		}
	}
}

// P2.1: scalars' bytes, at the edges of each length, alone and beside others.
func TestDecodeScalars(t *testing.T) {
	if l := Decode(""); len(l) != 0 {
		t.Errorf("nothing: %x", l)
	}
	for _, e := range edges {
		if l := Decode(e.bytes); !slices.Equal(l, []rune{e.scalar}) {
			t.Errorf("%x: %x", e.bytes, l)
		}
		if l := Decode("a" + e.bytes + e.bytes + "\xffz"); !slices.Equal(l, []rune{'a', e.scalar, e.scalar, bad, 'z'}) {
			t.Errorf("%x among others: %x", e.bytes, l)
		}
	}
}

// P2.1: the longest begin of some scalar's bytes is one U+FFFD, whatever follows it.
func TestDecodeTellsTheLongestBegin(t *testing.T) {
	for _, e := range edges {
		for n := 1; n < len(e.bytes); n++ {
			begin := e.bytes[:n]
			if l := Decode(begin); !slices.Equal(l, []rune{bad}) {
				t.Errorf("%x: %x", begin, l)
			}
			for _, next := range []string{"A", "\xc3\xa9", "\xf4\x8f\xbf\xbf"} {
				want := append([]rune{bad}, []rune(next)...)
				if l := Decode(begin + next); !slices.Equal(l, want) {
					t.Errorf("%x behind %x: %x", next, begin, l)
				}
			}
			if l := Decode(begin + begin); !slices.Equal(l, []rune{bad, bad}) {
				t.Errorf("%x twice: %x", begin, l)
			}
		}
	}
}

// P2.1: what begins no scalar's bytes is taken byte by byte; the second byte has bounds of its own behind E0, ED, F0 and F4.
func TestDecodeTellsByteByByte(t *testing.T) {
	singles := []byte{0x80, 0xBF, 0xC0, 0xC1}
	for b := 0xF5; b <= 0xFF; b++ {
		singles = append(singles, byte(b))
	}
	for _, b := range singles {
		if l := Decode(string([]byte{b})); !slices.Equal(l, []rune{bad}) {
			t.Errorf("%x: %x", b, l)
		}
		if l := Decode(string([]byte{b, 0x80, 0x80, 0x80})); !slices.Equal(l, []rune{bad, bad, bad, bad}) {
			t.Errorf("%x 80 80 80: %x", b, l)
		}
		if l := Decode(string([]byte{b, 'A'})); !slices.Equal(l, []rune{bad, 'A'}) {
			t.Errorf("%x 41: %x", b, l)
		}
	}
	for _, s := range []string{"\xe0\x80", "\xe0\x9f\xbf", "\xed\xa0\x80", "\xed\xbf\xbf", "\xf0\x80\x80\x80", "\xf0\x8f\xbf\xbf", "\xf4\x90\x80\x80", "\xf4\xbf\xbf\xbf"} {
		want := slices.Repeat([]rune{bad}, len(s))
		if l := Decode(s); !slices.Equal(l, want) {
			t.Errorf("%x: %x", s, l)
		}
	}
	for s, want := range map[string][]rune{
		"\xe2\x82A":                {bad, 'A'},
		"\xf0\x9f\x98\xc3\xa9":     {bad, 0xE9},
		"\xf0\x9f\x98\xf0\x9f\x98": {bad, bad},
		"\xe2\x82\xac\x80":         {0x20AC, bad},
		"\xc3\xa9\xbf\xbf\xc3":     {0xE9, bad, bad, bad},
	} {
		if l := Decode(s); !slices.Equal(l, want) {
			t.Errorf("%x: %x", s, l)
		}
	}
}

// P2.1 and P2.2, word by word: all texts of two bytes, all of three and four of the bytes where something begins or ends.
func TestDecodeAndValidWordByWord(t *testing.T) {
	begins := begins()
	texts(func(s string) {
		l := Decode(s)
		if want := decoded(begins, s); !slices.Equal(l, want) {
			t.Fatalf("%x: %x, not %x", s, l, want)
		}
		if v := Valid(s); v != utf8.ValidString(s) {
			t.Fatalf("%x: valid: %v", s, v)
		}
	})
}

// P2.2: the bytes of each, in turn.
func TestEncode(t *testing.T) {
	for _, l := range [][]rune{nil, {}} {
		if s := Encode(l); s != "" {
			t.Errorf("nothing: %x", s)
		}
	}
	var all []rune
	var bytes strings.Builder
	for _, e := range edges {
		if s := Encode([]rune{e.scalar}); s != e.bytes {
			t.Errorf("%x: %x", e.scalar, s)
		}
		all = append(all, e.scalar)
		bytes.WriteString(e.bytes)
	}
	if s := Encode(all); s != bytes.String() {
		t.Errorf("all: %x", s)
	}
}

// P2.2: U+FFFD for what is no scalar; what is handed in stays.
func TestEncodeNoScalars(t *testing.T) {
	for _, r := range noScalars {
		l := []rune{'a', r, 0xE9}
		if s := Encode(l); s != "a\xef\xbf\xbd\xc3\xa9" {
			t.Errorf("%x: %x", r, s)
		}
		if !slices.Equal(l, []rune{'a', r, 0xE9}) {
			t.Errorf("%x: handed in, and now %x", r, l)
		}
	}
	if s := Encode([]rune{0xD83D, 0xDE00}); s != "\xef\xbf\xbd\xef\xbf\xbd" {
		t.Errorf("a pair of halves: %x", s)
	}
}

// P2.2: what is valid, and what isn't, wherever it stands.
func TestValid(t *testing.T) {
	if !Valid("") {
		t.Error("nothing isn't valid")
	}
	for _, e := range edges {
		if !Valid(e.bytes) || !Valid("a"+e.bytes+e.bytes+"z") {
			t.Errorf("%x isn't valid", e.bytes)
		}
		for n := 1; n < len(e.bytes); n++ {
			for _, s := range []string{e.bytes[:n], e.bytes[:n] + "z", "a" + e.bytes[:n], e.bytes[n:], "a" + e.bytes[n:] + "z"} {
				if Valid(s) {
					t.Errorf("%x is valid", s)
				}
			}
		}
	}
	for _, s := range []string{"\x80", "\xbf", "\xc0\x80", "\xc1\xbf", "\xe0\x9f\xbf", "\xed\xa0\x80", "\xed\xbf\xbf", "\xf0\x8f\xbf\xbf", "\xf4\x90\x80\x80", "\xf5\x80\x80\x80", "\xf8\x88\x80\x80\x80", "\xfe", "\xff"} {
		if Valid(s) || Valid("a"+s) || Valid(s+"z") {
			t.Errorf("%x is valid", s)
		}
	}
}

// P2.3: all scalars are told there and back, by bytes that are valid, each by its own.
func TestScalarsThereAndBack(t *testing.T) {
	seen := map[string]bool{}
	var all []rune
	for r := rune(0); r <= 0x10FFFF; r++ {
		if !isScalar(r) {
			continue
		}
		s := Encode([]rune{r})
		if l := Decode(s); !slices.Equal(l, []rune{r}) || !Valid(s) || seen[s] {
			t.Fatalf("%x: %x, back %x, valid %v, seen %v", r, s, l, Valid(s), seen[s])
		}
		seen[s] = true
		all = append(all, r)
	}
	if s := Encode(all); !Valid(s) || !slices.Equal(Decode(s), all) {
		t.Error("all of them aren't told there and back")
	}
}

// P2.3: valid bytes have one form; decoded, encoded and decoded all bytes are as decoded.
func TestBytesThereAndBack(t *testing.T) {
	texts(func(s string) {
		l := Decode(s)
		back := Encode(l)
		if !slices.Equal(Decode(back), l) {
			t.Fatalf("%x: %x, and then %x", s, l, Decode(back))
		}
		if Valid(s) != (back == s) || !Valid(back) {
			t.Fatalf("%x: valid %v, back %x", s, Valid(s), back)
		}
	})
}

// P2.1 to P2.3 of long texts: the work grows no faster than the text.
func TestLongTexts(t *testing.T) {
	const times = 1 << 20
	s := strings.Repeat("\xe2\x82A\xf0\x9f\x98\x80", times)
	l := Decode(s)
	if !slices.Equal(l, slices.Repeat([]rune{bad, 'A', 0x1F600}, times)) || Valid(s) || !Valid(s[3:7]) {
		t.Error("a long text isn't as its parts")
	}
	if back := Encode(l); back != strings.Repeat("\xef\xbf\xbdA\xf0\x9f\x98\x80", times) || !Valid(back) {
		t.Error("a long list isn't as its parts")
	}
}

// Rule R3: what was told once isn't changed by who writes into what was told another time.
func TestDecodeTellsNewMemory(t *testing.T) {
	one, two := Decode("ab"), Decode("ab")
	one[0] = 'x'
	if two[0] != 'a' || Decode("ab")[0] != 'a' {
		t.Error("answers share memory")
	}
}
