package puny

import (
	"errors"
	"math/big"
	"math/rand"
	"slices"
	"strings"
	"testing"

	"gatepost/api"
	"gatepost/fail"
)

// allDigits are the digits, in the order of their values.
const allDigits = "abcdefghijklmnopqrstuvwxyz0123456789"

// names are lists of code points with the texts that tell them; most are those of RFC 3492, section 7.1.
var names = map[string]string{
	"":                       "",
	"bücher":                 "bcher-kva",
	"münchen":                "mnchen-3ya",
	"ü":                      "tda",
	"\u0080":                 "a",
	"\U0010FFFF":             "dn32g",
	"ليهمابتكلموشعربي؟":      "egbpdaj6bu4bxfgehfvwxn",
	"他们为什么不说中文":              "ihqwcrb4cv8a8dqg056pqjye",
	"他們爲什麽不說中文":              "ihqwctvzc91f659drss3x8bo0yb",
	"Pročprostěnemluvíčesky": "Proprostnemluvesky-uyb24dma41a",
	"למההםפשוטלאמדבריםעברית":                   "4dbcagdahymbxekheh6e0a7fei0b",
	"なぜみんな日本語を話してくれないのか":                       "n8jok5ay5dzabd5bym9f0cm5685rrjetr6pdxa",
	"почемужеонинеговорятпорусски":             "b1abfaaepdrnnbgefbadotcwatmq2g4l",
	"PorquénopuedensimplementehablarenEspañol": "PorqunopuedensimplementehablarenEspaol-fmd56a",
	"TạisaohọkhôngthểchỉnóitiếngViệt":          "TisaohkhngthchnitingVit-kjcr8268qyxafd2f1b9g",
	"3年B組金八先生":                                 "3B-ww4c5e180e575a65lsy2b",
	"安室奈美恵-with-SUPER-MONKEYS":                 "-with-SUPER-MONKEYS-pc58ag80a8qai00g7n9n",
	"Hello-Another-Way-それぞれの場所":                "Hello-Another-Way--fc4qua05auwb3674vfr0b",
	"ひとつ屋根の下2":                                 "2-u9tlzr9756bt3uc0v",
	"MajiでKoiする5秒前":                            "MajiKoi5-783gue6qz075azm5e",
	"パフィーdeルンバ":                                "de-jg4avhby1noc0d",
	"そのスピードで":                                  "d9juau41awczczp",
	"-> $1.00 <-":                              "-> $1.00 <--",
	"abc":                                      "abc-",
	"\x00\x7f":                                 "\x00\x7f-",
	"-":                                        "--",
	"--":                                       "---",
	"a-b":                                      "a-b-",
	"-ü":                                       "--eha",
	"ü-":                                       "--dha",
	"-ü-":                                      "---xka",
}

// points are code points at which something begins or ends, next to one another and far from one another.
var points = []rune{
	0, 'A', 'Z', 'a', 'z', '0', '-', 126, 127, 128, 129, 0xFF, 0x100, 0x3042, 0x3043, 0xD7FE, 0xD7FF, 0xE000, 0xE001, 0xFFFD, 0xFFFF, 0x10000, 0x1F600,
	0x10FFFE, 0x10FFFF,
}

// noScalars are numbers on both sides of what a scalar may be.
var noScalars = []rune{-1, -128, -1 << 31, 0xD800, 0xDBFF, 0xDC00, 0xDFFF, 0x110000, 0x1FFFFF, 1<<31 - 1}

// limitOf is the threshold, word by word.
func limitOf(k, bias int) int {
	if k <= bias {
		return 1
	}
	if k >= bias+26 {
		return 26
	}
	return k - bias
}

// adapted is the bias that a delta makes, word by word.
func adapted(delta, count int, first bool) int {
	if first {
		delta = delta / 700
	} else {
		delta = delta / 2
	}
	delta = delta + delta/count
	k := 0
	for delta > 455 {
		delta = delta / 35
		k = k + 36
	}
	return k + 36*delta/(delta+38)
}

// written is q by digits, word by word.
func written(q, bias int) string {
	text := ""
	for k := 36; ; k += 36 {
		t := limitOf(k, bias)
		if q < t {
			return text + allDigits[q:q+1]
		}
		d := t + (q-t)%(36-t)
		text += allDigits[d : d+1]
		q = (q - t) / (36 - t)
	}
}

// encoded is P4.1 of scalars, word by word.
func encoded(l []rune) string {
	var text strings.Builder
	h := 0
	for _, c := range l {
		if c < 128 {
			text.WriteByte(byte(c))
			h++
		}
	}
	basic := h
	if basic > 0 {
		text.WriteByte('-')
	}
	n, bias, delta := 128, 72, 0
	for h < len(l) {
		m := 0x110000
		for _, c := range l {
			if int(c) >= n {
				m = min(m, int(c))
			}
		}
		delta += (m - n) * (h + 1)
		n = m
		for _, c := range l {
			if int(c) < n {
				delta++
			}
			if int(c) == n {
				text.WriteString(written(delta, bias))
				bias = adapted(delta, h+1, h == basic)
				delta = 0
				h++
			}
		}
		delta++
		n++
	}
	return text.String()
}

// decoded is P4.2, word by word, and whether there is no error.
func decoded(s string) ([]rune, bool) {
	if len(s) > 65536 {
		return nil, false
	}
	var l []rune
	digits := s
	for at := range len(s) {
		if s[at] >= 128 {
			return nil, false
		}
		if s[at] == '-' && at > 0 {
			l, digits = []rune(s[:at]), s[at+1:]
		}
	}
	n, bias, i := 128, 72, 0
	for digits != "" {
		was, w := i, 1
		for k := 36; ; k += 36 {
			if digits == "" {
				return nil, false
			}
			d := strings.IndexByte(allDigits, lower(digits[:1])[0])
			digits = digits[1:]
			if d < 0 {
				return nil, false
			}
			i += d * w
			t := limitOf(k, bias)
			if i > 1<<40 {
				return nil, false
			}
			if d < t {
				break
			}
			w *= 36 - t
			if w > 1<<40 {
				return nil, false
			}
		}
		count := len(l) + 1
		bias = adapted(i-was, count, was == 0)
		n += i / count
		i %= count
		if n > 0x10FFFF || n >= 0xD800 && n <= 0xDFFF {
			return nil, false
		}
		l = slices.Concat(l[:i], []rune{rune(n)}, l[i:])
		i++
	}
	return l, true
}

// lower makes the letters from A to Z small, and no others.
func lower(s string) string {
	bytes := []byte(s)
	for at, b := range bytes {
		if 'A' <= b && b <= 'Z' {
			bytes[at] = b + 'a' - 'A'
		}
	}
	return string(bytes)
}

// small is a text with small letters behind the last hyphen, or all small, without one.
func small(s string) string {
	cut := strings.LastIndexByte(s, '-') + 1
	return s[:cut] + lower(s[cut:])
}

// refused tells whether an error is that of a text or list that may not be.
func refused(e error) bool {
	return errors.Is(e, api.ErrForm) && fail.Code(e) == api.ErrForm
}

// checkEncode holds Encode of scalars against the document's words, and Decode of what it tells against the list.
func checkEncode(t *testing.T, l []rune) {
	t.Helper()
	s, e := Encode(l)
	if want := encoded(l); e != nil || s != want {
		t.Fatalf("%x: %.200q, %v, and not %.200q", short(l), s, e, want)
	}
	checkBack(t, l, s)
}

// checkBack holds that a text is decoded to a list, unless it is too long for that.
func checkBack(t *testing.T, l []rune, s string) {
	t.Helper()
	back, e := Decode(s)
	if len(s) > api.MaxInput {
		if !refused(e) || len(back) > 0 {
			t.Fatalf("%d bytes: %x, %v", len(s), short(back), e)
		}
		return
	}
	if e != nil || !slices.Equal(back, l) {
		t.Fatalf("%.200q: %x, %v, and not %x", s, short(back), e, short(l))
	}
}

// checkDecode holds Decode against the document's words, and Encode of what it tells against the text.
func checkDecode(t *testing.T, s string) {
	t.Helper()
	want, ok := decoded(s)
	l, e := Decode(s)
	if !ok {
		if !refused(e) || len(l) > 0 {
			t.Fatalf("%.200q: %x, %v, and not an error", s, short(l), e)
		}
		return
	}
	if e != nil || !slices.Equal(l, want) {
		t.Fatalf("%.200q: %x, %v, and not %x", s, short(l), e, short(want))
	}
	if back, e := Encode(l); e != nil || back != small(s) {
		t.Fatalf("%.200q, decoded and encoded: %.200q, %v", s, back, e)
	}
}

// short is as much of a list as a message needs.
func short(l []rune) []rune {
	return l[:min(len(l), 50)]
}

// P4.1, P4.2: ordinary names, there and back.
func TestNames(t *testing.T) {
	for name, text := range names {
		if s, e := Encode([]rune(name)); e != nil || s != text {
			t.Errorf("%q: %q, %v, and not %q", name, s, e, text)
		}
		if l, e := Decode(text); e != nil || string(l) != name {
			t.Errorf("%q: %q, %v, and not %q", text, string(l), e, name)
		}
	}
}

// P4.1, P4.3: all lists of up to three of the points.
func TestShortLists(t *testing.T) {
	checkEncode(t, nil)
	checkEncode(t, []rune{})
	for _, a := range points {
		checkEncode(t, []rune{a})
		for _, b := range points {
			checkEncode(t, []rune{a, b})
			for _, c := range points {
				checkEncode(t, []rune{a, b, c})
			}
		}
	}
}

// P4.1, P4.3: each scalar alone, and among others.
func TestEachScalar(t *testing.T) {
	for c := rune(0); c <= 0x10FFFF; c++ {
		if !isScalar(int64(c)) {
			continue
		}
		for _, l := range [][]rune{{c}, {'a', c, 0xE9}} {
			s, e := Encode(l)
			if e != nil {
				t.Fatalf("%x: %v", l, e)
			}
			checkBack(t, l, s)
		}
	}
}

// P4.1, P4.3: lists by chance: many of one code point, next to one another, far from one another, with and without some below 128.
func TestListsByChance(t *testing.T) {
	chance := rand.New(rand.NewSource(4))
	for range 3000 {
		first, span := rune(chance.Intn(0xD000)), rune(1+chance.Intn(40))
		l := make([]rune, chance.Intn(60))
		for at := range l {
			switch chance.Intn(4) {
			case 0:
				l[at] = points[chance.Intn(len(points))]
			case 1:
				l[at] = rune(chance.Intn(128))
			default:
				l[at] = first + chance.Int31n(span)
			}
		}
		checkEncode(t, l)
	}
}

// P4.1, P4.3: one code point many times, alone, and between others.
func TestTheSameManyTimes(t *testing.T) {
	for _, c := range points {
		for _, many := range []int{2, 3, 35, 36, 37, 500} {
			l := slices.Repeat([]rune{c}, many)
			checkEncode(t, l)
			checkEncode(t, append(l, 'a', 0xE9))
			checkEncode(t, slices.Repeat([]rune{c, '-', 0x4E00}, many))
		}
	}
}

// P4.1: numbers that are no scalars, wherever they stand.
func TestEncodeOfNoScalars(t *testing.T) {
	for _, c := range noScalars {
		for _, l := range [][]rune{{c}, {c, 'a'}, {'a', c}, {0xE9, c, 0xE9}, append(slices.Repeat([]rune{'a'}, 65535), c)} {
			if s, e := Encode(l); !refused(e) || s != "" {
				t.Errorf("%x: %.200q, %v", short(l), s, e)
			}
		}
	}
	for _, c := range []rune{0, 0xD7FF, 0xE000, 0x10FFFF} {
		if _, e := Encode([]rune{c}); e != nil {
			t.Errorf("%x: %v", c, e)
		}
	}
}

// P4.1: lists of 65536 are encoded, and longer ones not; what takes more than 65536 bytes is not decoded (P4.2).
func TestLongLists(t *testing.T) {
	for _, some := range [][]rune{{'a'}, {'-'}, {0x80}, {0xE9}, {0x10FFFF}, {'a', 0x10FFFF}, {0x10FFFF, 'a'}, {'a', 'a', 'a', 0x80, 0x81, 0x10FFFF}} {
		l := slices.Repeat(some, 65540/len(some)+1)
		for _, many := range []int{65534, 65535, 65536} {
			checkEncode(t, l[:many])
		}
		for _, many := range []int{65537, 65538} {
			if s, e := Encode(l[:many]); !refused(e) || s != "" {
				t.Errorf("%d of %x: %.200q, %v", many, some, s, e)
			}
		}
	}
}

// P1, P4.1: 65536 code points that are all different, in turn and the other way round, take no long time, nor do texts as long as may be.
func TestManyDifferentOnes(t *testing.T) {
	var l []rune
	for c := rune(0x20000); len(l) < 65536; c++ {
		l = append(l, c)
	}
	if _, e := Encode(l); e != nil {
		t.Errorf("in turn: %v", e)
	}
	slices.Reverse(l)
	if _, e := Encode(l); e != nil {
		t.Errorf("the other way round: %v", e)
	}
	for many := 1000; many <= 3000; many += 1000 {
		checkEncode(t, l[:many])
		checkEncode(t, l[65536-many:])
	}
}

// P4.1, R3: the list that is handed in stays as it is, and what is told shares no memory with it.
func TestEncodeLeavesTheList(t *testing.T) {
	l := []rune{0x10FFFF, 'a', 0xE9, '-', 0xE8, 0xD800}
	before := slices.Clone(l)
	Encode(l)
	Encode(l[:5])
	if !slices.Equal(l, before) {
		t.Errorf("%x", l)
	}
}

// P4.2: capital letters are as small ones behind the last hyphen, and stay ahead of it.
func TestDecodeOfCapitals(t *testing.T) {
	for s, want := range map[string]string{
		"BCHER-KVA": "BüCHER", "bcher-KVA": "bücher", "Bcher-kVa": "Bücher", "TDA": "ü", "tDa": "ü", "ABC-": "ABC", "A-B-": "A-B", "A": "\u0080", "DN32G": "\U0010FFFF",
		"3B-WW4C5E180E575A65LSY2B": "3年B組金八先生",
	} {
		if l, e := Decode(s); e != nil || string(l) != want {
			t.Errorf("%q: %q, %v, and not %q", s, string(l), e, want)
		}
	}
}

// P4.2: texts that may not be: a hyphen as the first byte, bytes that are no digits or from 128 on, digits that break off, numbers that grow too great, and no scalars.
func TestDecodeOfWrongTexts(t *testing.T) {
	wrong := []string{
		"-", "-a", "-tda", "-99", "a-!", "a- ", "tda ", " tda", "a-tda.", "a-@", "a-[", "a-`", "a-{", "a-/", "a-:", "a-_", "a-\x00", "a-\x7f",
		"é", "a\x80", "\x80-a", "a-\x80", "a-\xff", "\xffa", "abc\xe9-", "bcher-kva\xc3", "ü-tda",
		"bcher-k", "bcher-kv", "9", "99", "td", "t", "b", "a-9", "ihqwcrb4cv8a8dqg056pqjy",
		"99999999999999", "a-99999999", "dn33g", "a-999999a", "zzzzzzzzzzzzzzzzzzzzzzzz",
		"\U0010FFFF",
	}
	for _, s := range wrong {
		if l, e := Decode(s); !refused(e) || len(l) > 0 {
			t.Errorf("%q: %q, %v", s, string(l), e)
		}
	}
}

// P4.2: each byte as the one digit behind a code point: what is told, and what is none.
func TestDecodeOfEachByte(t *testing.T) {
	for b := range 256 {
		for _, s := range []string{string([]byte{byte(b)}), "a-" + string([]byte{byte(b)}), "a-" + string([]byte{byte(b), 'a'}), string([]byte{byte(b), '-', 'a'}), "a-" + string([]byte{'k', byte(b), 'a'})} {
			checkDecode(t, s)
		}
	}
}

// P4.2, P4.3: n on both sides of what is no scalar, behind none and some code points.
func TestDecodeBesideNoScalars(t *testing.T) {
	for _, ahead := range []int{0, 1, 2, 35, 1000} {
		prefix := ""
		if ahead > 0 {
			prefix = strings.Repeat("x", ahead) + "-"
		}
		for n, ok := range map[int]bool{128: true, 0xD7FF: true, 0xD800: false, 0xDABC: false, 0xDFFF: false, 0xE000: true, 0x10FFFF: true, 0x110000: false, 0x200080: false, 1<<24 + 'a': false, 1<<31 + 'a': false, 1<<32 + 0xE9: false} {
			for _, place := range []int{0, ahead / 2, ahead} {
				s := prefix + written((n-128)*(ahead+1)+place, 72)
				l, e := Decode(s)
				if ok != (e == nil) || ok && (len(l) != ahead+1 || int(l[place]) != n) || !ok && (!refused(e) || len(l) > 0) {
					t.Errorf("%x at %d of %d: %x, %v", n, place, ahead, short(l), e)
				}
				checkDecode(t, s)
			}
		}
	}
}

// P4.2: however many digits follow one another, i and w grow no further than they may, and never wrap round.
func TestDecodeOfWhatGrowsTooGreat(t *testing.T) {
	for _, digit := range []string{"b", "k", "z", "0", "9"} {
		for many := range 200 {
			for _, last := range []string{"", "a", "aa", "za"} {
				checkDecode(t, strings.Repeat(digit, many)+last)
				checkDecode(t, "tda"+strings.Repeat(digit, many)+last)
				checkDecode(t, "a-"+strings.Repeat(digit, many)+last)
			}
		}
	}
	for _, digit := range []string{"z", "0", "9"} {
		for _, many := range []int{1000, 65535, 65536} {
			if l, e := Decode(strings.Repeat(digit, many)); !refused(e) || len(l) > 0 {
				t.Errorf("%d of %s: %x, %v", many, digit, short(l), e)
			}
		}
	}
}

// writtenBig is a number of any size by digits, at the first bias.
func writtenBig(q *big.Int) string {
	text := ""
	for k := 36; ; k += 36 {
		t := int64(limitOf(k, 72))
		if q.Cmp(big.NewInt(t)) < 0 {
			return text + allDigits[q.Int64():][:1]
		}
		rest := new(big.Int)
		q, rest = new(big.Int).DivMod(new(big.Int).Sub(q, big.NewInt(t)), big.NewInt(36-t), rest)
		text += allDigits[t+rest.Int64():][:1]
	}
}

// P4.2: a number that would be a code point's, were it cut to some bits, is none.
func TestDecodeOfWhatWrapsRound(t *testing.T) {
	for _, bits := range []uint{0, 8, 16} {
		delta := big.NewInt(1<<bits - 1)
		if s := writtenBig(delta); s != written(1<<bits-1, 72) {
			t.Fatalf("%d: %q", delta, s)
		}
	}
	for _, bits := range []uint{31, 32, 33, 40, 41, 48, 53, 63, 64, 65, 96, 128, 1000} {
		for _, code := range []int64{0, 100, 0x4E00, 0x10FFFF - 128} {
			power := new(big.Int).Lsh(big.NewInt(1), bits)
			for _, delta := range []*big.Int{new(big.Int).Add(power, big.NewInt(code)), new(big.Int).Sub(power, big.NewInt(code+1))} {
				s := writtenBig(delta)
				for _, text := range []string{s, strings.ToUpper(s), s + "a", s + "tda"} {
					if l, e := Decode(text); !refused(e) || len(l) > 0 {
						t.Errorf("2^%d and %d: %q: %x, %v", bits, code, text, short(l), e)
					}
				}
			}
		}
	}
}

// P4.2, P4.3: all texts of up to four bytes of some, and all digits of up to three.
func TestShortTexts(t *testing.T) {
	checkDecode(t, "")
	allTexts("-aAbktzZ09!\x80", 4, func(s string) { checkDecode(t, s) })
	allTexts(allDigits+"-", 3, func(s string) {
		checkDecode(t, s)
		checkDecode(t, "a-"+s)
	})
}

// allTexts calls for each text of 1 to many of some bytes.
func allTexts(some string, many int, do func(s string)) {
	if many == 0 {
		return
	}
	for at := range len(some) {
		do(some[at : at+1])
		allTexts(some, many-1, func(s string) { do(some[at:at+1] + s) })
	}
}

// P4.2, P4.3: texts by chance, of digits for the most part, and names with a byte changed.
func TestTextsByChance(t *testing.T) {
	chance := rand.New(rand.NewSource(5))
	some := func(of string, most int) string {
		bytes := make([]byte, chance.Intn(most))
		for at := range bytes {
			bytes[at] = of[chance.Intn(len(of))]
		}
		return string(bytes)
	}
	for range 20000 {
		checkDecode(t, some("aabbccddeefghijklmnopqrstuvwxyzABCDEFGHIJKLMNOPQRSTUVWXYZ0123456789", 30))
		checkDecode(t, some("abc-XYZ 09", 10)+"-"+some("aaaabcdeABCDE", 20))
	}
	for _, text := range names {
		for at := range len(text) {
			for _, b := range []byte("-aAz9~\xc3") {
				checkDecode(t, text[:at]+string([]byte{b})+text[at+1:])
			}
			checkDecode(t, text[:at])
			checkDecode(t, text[:at]+text[at+1:])
		}
	}
}

// P4.2, P4.3: texts of 65536 bytes are decoded, and longer ones not.
func TestLongTexts(t *testing.T) {
	for _, e := range []struct{ begin, middle, end string }{
		{"", "a", ""}, {"", "A", ""}, {"", "x", "-"}, {"", "-", "-"}, {"", "x", "-tda"}, {"x-", "a", ""}, {"tda", "a", ""},
	} {
		for _, many := range []int{65535, 65536, 65537, 65538} {
			s := e.begin + strings.Repeat(e.middle, many-len(e.begin)-len(e.end)) + e.end
			l, err := Decode(s)
			if many > 65536 {
				if !refused(err) || len(l) > 0 {
					t.Errorf("%d bytes of %q: %x, %v", many, e, short(l), err)
				}
				continue
			}
			if back, errBack := Encode(l); err != nil || errBack != nil || back != small(s) {
				t.Errorf("%d bytes of %q: %x, %v, %v", many, e, short(l), err, errBack)
			}
		}
	}
	half := strings.Repeat("x", 32767) + "-" + strings.Repeat("a", 32768)
	want := string(slices.Repeat([]rune{0x80}, 32768)) + strings.Repeat("x", 32767)
	if l, e := Decode(half); e != nil || string(l) != want {
		t.Errorf("half of it digits: %x, %v", short(l), e)
	}
}

// P4.2: the bytes ahead of the last hyphen are code points, whatever they are below 128.
func TestDecodeLeavesWhatIsAhead(t *testing.T) {
	var all []byte
	for b := range 128 {
		all = append(all, byte(b))
	}
	for _, s := range []string{string(all), "--", "-a-b-", "A!-", " ", "-"} {
		if l, e := Decode(s + "-"); e != nil || string(l) != s {
			t.Errorf("%q: %q, %v", s, string(l), e)
		}
		checkEncode(t, []rune(s))
		checkDecode(t, s+"-tda")
	}
}
