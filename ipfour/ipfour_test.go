package ipfour

import (
	"errors"
	"fmt"
	"math/big"
	"math/rand"
	"strings"
	"testing"

	"gatepost/api"
	"gatepost/fail"
)

// errnos are all numbers that an error may wrap.
var errnos = []api.Errno{api.ErrArg, api.ErrForm, api.ErrHost, api.ErrPort, api.ErrBase, api.ErrTooLong, api.ErrStale, api.ErrFull, api.ErrClosed, api.ErrNone}

// noFigures are bytes that are a figure by no base: signs, blanks, the neighbours of figures, and some from 128 on.
var noFigures = []string{"+", "-", "_", " ", "\t", "\n", "\r", "\x00", "/", ":", "@", "G", "`", "g", "x", "X", "z", "%", ",", "\x7f", "\x80", "\xb1", "\xff", "\u00b2", "\u0661", "\uff11", "\u3002", "\uff0e"}

// short is a text that may be long, as far as it is of use in a message.
func short(s string) string {
	if len(s) > 200 {
		return s[:200] + ".."
	}
	return s
}

// wantAddress asks Parse, and Ends, of a name that is an address, with and without a dot behind it.
func wantAddress(t *testing.T, s string, want uint32) {
	t.Helper()
	for _, name := range []string{s, s + "."} {
		if got, e := Parse(name); e != nil || got != want {
			t.Errorf("Parse(%q): %#x, %v, want %#x", short(name), got, e, want)
		}
		wantEnds(t, name, true)
	}
}

// wantError asks Parse of a name that is none.
func wantError(t *testing.T, s string, want api.Errno) {
	t.Helper()
	got, e := Parse(s)
	if got != 0 || e == nil || fail.Code(e) != want {
		t.Errorf("Parse(%q): %#x, %v, want an error that wraps %v", short(s), got, e, want)
	}
	for _, number := range errnos {
		if errors.Is(e, number) != (number == want) {
			t.Errorf("Parse(%q): %v, and %v", short(s), e, number)
		}
	}
}

// wantErrors asks it with and without a dot behind it.
func wantErrors(t *testing.T, s string, want api.Errno) {
	t.Helper()
	wantError(t, s, want)
	wantError(t, s+".", want)
}

// wantEnds asks Ends of a name.
func wantEnds(t *testing.T, s string, want bool) {
	t.Helper()
	if got := Ends(s); got != want {
		t.Errorf("Ends(%q): %v, want %v", short(s), got, want)
	}
}

// partsBy are a name's parts, by the document's words.
func partsBy(s string) []string {
	parts := strings.Split(s, ".")
	if last := len(parts) - 1; last > 0 && parts[last] == "" {
		return parts[:last]
	}
	return parts
}

// numberBy is a part's number, by the document's words: a whole one, of any size.
func numberBy(part string) (*big.Int, bool) {
	if part == "" {
		return nil, false
	}
	base, rest := 10, part
	if strings.HasPrefix(part, "0x") || strings.HasPrefix(part, "0X") {
		base, rest = 16, part[2:]
	} else if len(part) >= 2 && part[0] == '0' {
		base, rest = 8, part[1:]
	}
	if rest == "" {
		return new(big.Int), true
	}
	if strings.Trim(rest, "0123456789ABCDEFabcdef") != "" {
		return nil, false
	}
	return new(big.Int).SetString(rest, base)
}

// parseBy is Parse, by the document's words.
func parseBy(s string) (uint32, api.Errno) {
	parts := partsBy(s)
	if len(parts) > 4 {
		return 0, api.ErrForm
	}
	var numbers []*big.Int
	for _, part := range parts {
		number, ok := numberBy(part)
		if !ok {
			return 0, api.ErrForm
		}
		numbers = append(numbers, number)
	}
	last := len(numbers) - 1
	most := new(big.Int).Exp(big.NewInt(256), big.NewInt(int64(5-len(parts))), nil)
	if numbers[last].Cmp(most) >= 0 {
		return 0, api.ErrHost
	}
	sum := numbers[last]
	for place, number := range numbers[:last] {
		if number.Cmp(big.NewInt(255)) > 0 {
			return 0, api.ErrHost
		}
		weight := big.NewInt([]int64{1 << 24, 1 << 16, 1 << 8}[place])
		sum = new(big.Int).Add(sum, weight.Mul(weight, number))
	}
	return uint32(sum.Uint64()), api.OK
}

// endsBy is Ends, by the document's words.
func endsBy(s string) bool {
	parts := partsBy(s)
	last := parts[len(parts)-1]
	_, ok := numberBy(last)
	return ok || last != "" && strings.Trim(last, "0123456789") == ""
}

// check holds Ends and Parse of a name against the document's words; P7.3: what Parse takes ends as an address.
func check(t *testing.T, s string) {
	t.Helper()
	wantEnds(t, s, endsBy(s))
	want, number := parseBy(s)
	if number != api.OK {
		wantError(t, s, number)
		return
	}
	if got, e := Parse(s); e != nil || got != want || !Ends(s) {
		t.Errorf("%q: %#x, %v, ends: %v, want %#x", s, got, e, Ends(s), want)
	}
}

// thereAndBack asks whether an address is told there and back, and ends as one.
func thereAndBack(t *testing.T, a uint32) {
	t.Helper()
	wantAddress(t, Text(a), a)
}

// P7.1, P7.2: the empty text, and dots alone.
func TestOfNothing(t *testing.T) {
	for dots := range 12 {
		s := strings.Repeat(".", dots)
		wantEnds(t, s, false)
		wantError(t, s, api.ErrForm)
	}
}

// P7.2: one to four parts, with and without a dot behind the last one.
func TestParseOfEachCount(t *testing.T) {
	for s, want := range map[string]uint32{
		"1": 1, "16909060": 0x01020304, "1.2": 0x01000002, "1.131844": 0x01020304, "1.2.3": 0x01020003, "1.2.772": 0x01020304, "1.2.3.4": 0x01020304,
		"127.0.0.1": 0x7F000001, "127.1": 0x7F000001, "127.0.1": 0x7F000001, "0x7f.1": 0x7F000001, "2130706433": 0x7F000001, "0x7F000001": 0x7F000001, "017700000001": 0x7F000001,
		"192.168.0.1": 0xC0A80001, "0300.0250.0.01": 0xC0A80001, "0xC0.0xa8.0X0.0X1": 0xC0A80001, "10.020.0x30.40": 0x0A103028,
	} {
		wantAddress(t, s, want)
	}
}

// P7.1, P7.2: more than four parts are no address, but end as one.
func TestOfMoreThanFourParts(t *testing.T) {
	for _, s := range []string{"1.2.3.4.5", "0.0.0.0.0", "1.2.3.4.5.6", "0x1.02.3.4.5.6", "1.2.3.4.0x", "256.256.256.256.256", "a.2.3.4.5", strings.Repeat("1.", 1000) + "1"} {
		wantErrors(t, s, api.ErrForm)
		wantEnds(t, s, true)
		wantEnds(t, s+".", true)
		wantEnds(t, s+"..", false)
	}
	wantErrors(t, "1.2.3.4.a", api.ErrForm)
	wantEnds(t, "1.2.3.4.a", false)
}

// P7.1, P7.2: an empty part at each place of each count; the last one alone is left out, and only once.
func TestOfEmptyParts(t *testing.T) {
	for count := 2; count <= 6; count++ {
		for place := range count {
			parts := strings.Split(strings.Repeat("1.", count-1)+"1", ".")
			parts[place] = ""
			s := strings.Join(parts, ".")
			check(t, s)
			check(t, s+".")
			if place < count-1 {
				wantErrors(t, s, api.ErrForm)
				wantEnds(t, s, true)
				continue
			}
			wantEnds(t, s, true)
			wantEnds(t, s+".", false)
			wantError(t, s+".", api.ErrForm)
		}
	}
	wantError(t, ".1", api.ErrForm)
	wantError(t, "1..2", api.ErrForm)
	wantError(t, "1..", api.ErrForm)
	wantError(t, "1.2.3..", api.ErrForm)
	wantError(t, "1.2.3.4..", api.ErrForm)
}

// P7.2: parts by each base, by figures small and capital.
func TestParseByEachBase(t *testing.T) {
	for s, want := range map[string]uint32{
		"0": 0, "1": 1, "7": 7, "8": 8, "9": 9, "10": 10, "89": 89, "1234567890": 1234567890,
		"00": 0, "000": 0, "01": 1, "07": 7, "010": 8, "0010": 8, "017": 15, "01234567": 0o1234567, "0000000000000000000000000017": 15,
		"0x": 0, "0X": 0, "0x0": 0, "0X0": 0, "0x00": 0, "0x9": 9, "0xa": 10, "0xA": 10, "0xf": 15, "0xF": 15, "0Xa": 10, "0XA": 10, "0Xf": 15, "0XF": 15, "0x10": 16, "0x010": 16, "0x08": 8, "0x09": 9,
		"0x89abcdef": 0x89ABCDEF, "0X89ABCDEF": 0x89ABCDEF, "0x1234567": 0x1234567, "0xaBcDeF": 0xABCDEF, "0x00000000000000000000000000000000ff": 255,
		"0.0x.0X.00": 0, "0x.0x": 0, "00.00.00.00": 0,
	} {
		wantAddress(t, s, want)
	}
}

// P7.1, P7.2: parts of figures that are none of their base: those from 0 to 9 are an end nevertheless.
func TestOfFiguresOfAnotherBase(t *testing.T) {
	for s, ends := range map[string]bool{
		"08": true, "09": true, "018": true, "0019": true, "0778": true, "0800": true, "00000000000000000000008": true,
		"0a": false, "0f": false, "01a": false, "1a": false, "9f": false, "a": false, "F": false, "0b1": false, "0o7": false, "00x1": false, "00x": false, "x": false, "X1": false, "x0": false,
		"0xg": false, "0xG": false, "0Xfg": false, "0xx": false, "0x0x1": false, "0x1x": false, "0x-1": false, "0x ": false, "1x": false, "10x1": false, "1e3": false, "1_0": false, "0x1p4": false,
	} {
		for _, ahead := range []string{"", "1.", "1.2.", "1.2.3.", "a.", "."} {
			wantErrors(t, ahead+s, api.ErrForm)
			wantEnds(t, ahead+s, ends)
			wantEnds(t, ahead+s+".", ends)
		}
		for _, behind := range []string{".1", ".1.2", ".1.2.3"} {
			wantErrors(t, s+behind, api.ErrForm)
			wantEnds(t, s+behind, true)
		}
	}
}

// P7.1, P7.2: bytes that are no figures, alone, ahead of, between and behind figures of each base.
func TestOfNoFigures(t *testing.T) {
	for _, b := range noFigures {
		parts := []string{b, b + "1", "1" + b, "1" + b + "1", "01" + b, "0x1" + b, "0X" + b, "0x" + b + "1", " " + b}
		if b != "x" && b != "X" {
			parts = append(parts, "0"+b, "0"+b+"1", "0"+b+"x1")
		}
		for _, s := range parts {
			wantErrors(t, s, api.ErrForm)
			wantErrors(t, "1."+s, api.ErrForm)
			wantErrors(t, s+".1", api.ErrForm)
			wantErrors(t, "1.2."+s+".4", api.ErrForm)
			wantEnds(t, s, false)
			wantEnds(t, "1."+s, false)
			wantEnds(t, "1."+s+".", false)
			wantEnds(t, s+".1", true)
		}
	}
}

// P7.1, P7.2: each byte, alone and as a figure of each base.
func TestOfEachByte(t *testing.T) {
	for b := range 256 {
		s := string([]byte{byte(b)})
		for _, name := range []string{s, "0" + s, "00" + s, "0x" + s, "0X" + s, "1" + s, s + "1", s + "x1", s + ".1", "1." + s, "1.0x" + s + ".1", "1.0" + s + "."} {
			check(t, name)
		}
	}
}

// P7.2: numbers at the bounds of each part, and one above them, by each base.
func TestParseAtTheBounds(t *testing.T) {
	for _, form := range []string{"%d", "0%o", "0x%x", "0X%X", "0000%o", "0x0000%X"} {
		for count := 1; count <= 4; count++ {
			ahead := strings.Repeat("255.", count-1)
			most := uint64(1) << (8 * (5 - count))
			high := uint32(uint64(1<<32) - most)
			for _, value := range []uint64{0, 1, 255, most/2 - 1, most / 2, most - 2, most - 1} {
				if value < most {
					wantAddress(t, ahead+fmt.Sprintf(form, value), high|uint32(value))
				}
			}
			for _, value := range []uint64{most, most + 1, most*2 - 1, most * 256, 1 << 32, 1<<32 + 1} {
				wantErrors(t, ahead+fmt.Sprintf(form, value), api.ErrHost)
				wantEnds(t, ahead+fmt.Sprintf(form, value), true)
			}
			for place := range count - 1 {
				parts := strings.Split(strings.Repeat("0.", count-1)+"0", ".")
				parts[place] = fmt.Sprintf(form, 255)
				wantAddress(t, strings.Join(parts, "."), 255<<(24-8*place))
				for _, value := range []uint64{256, 257, 511, 65536, 1 << 32, 1<<32 + 1} {
					parts[place] = fmt.Sprintf(form, value)
					wantErrors(t, strings.Join(parts, "."), api.ErrHost)
				}
			}
		}
	}
}

// tooGreat are numbers of more than 32 bits, and of more than 64, by each base: where they wrap round, small ones are left.
func tooGreat() []string {
	var texts []string
	for _, bits := range []uint{32, 33, 40, 63, 64, 65, 68, 96, 128, 256, 4096} {
		for _, more := range []int64{-1, 0, 1, 127} {
			value := new(big.Int).Add(new(big.Int).Lsh(big.NewInt(1), bits), big.NewInt(more))
			if bits == 32 && more < 0 {
				continue
			}
			for _, ahead := range []string{"", "0", "0000000000000000000000"} {
				texts = append(texts, "0"+ahead+value.Text(8), "0x"+ahead+value.Text(16), "0X"+ahead+strings.ToUpper(value.Text(16)))
			}
			texts = append(texts, value.Text(10))
		}
	}
	return append(texts, "99999999999999999999999", strings.Repeat("9", 10000), "0"+strings.Repeat("7", 10000), "0x"+strings.Repeat("f", 10000), "1"+strings.Repeat("0", 10000), "01"+strings.Repeat("0", 10000), "0x1"+strings.Repeat("0", 10000))
}

// P7.1, P7.2: numbers far too great, alone, at each place, and ahead of a byte that is no figure.
func TestOfNumbersFarTooGreat(t *testing.T) {
	for _, s := range tooGreat() {
		for _, name := range []string{s, "1." + s, "1.2." + s, "1.2.3." + s, s + ".1", "1." + s + ".1", "1.2." + s + ".1", s + "." + s + "." + s + "." + s} {
			wantErrors(t, name, api.ErrHost)
			wantEnds(t, name, true)
		}
		for _, b := range noFigures {
			wantErrors(t, s+b, api.ErrForm)
			wantEnds(t, s+b, false)
		}
		wantErrors(t, s+"g.1", api.ErrForm)
		wantErrors(t, "1.2.3.4."+s, api.ErrForm)
	}
	wantErrors(t, "0"+strings.Repeat("7", 100)+"8", api.ErrForm)
	wantEnds(t, "0"+strings.Repeat("7", 100)+"8", true)
}

// P7.2: noughts ahead make no number greater.
func TestParseOfManyNoughts(t *testing.T) {
	noughts := strings.Repeat("0", 1<<16)
	wantAddress(t, noughts, 0)
	wantAddress(t, noughts+"377", 255)
	wantAddress(t, "0x"+noughts+"fF."+noughts+"1", 0xFF000001)
	wantErrors(t, noughts+"400.1", api.ErrHost)
	wantErrors(t, noughts+"8", api.ErrForm)
}

// P7.2: where both errors may be, ErrForm is told, whichever stands first.
func TestParseTellsTheFirstError(t *testing.T) {
	for _, s := range []string{
		"256.a", "a.256", "256.256.a", "256..1", "256..", ".256", "4294967296.a", "a.4294967296", "1.a.256.1", "256.1.1.a", "256.1.08", "08.256", "0xg.999", "999.0xg",
		"256.256.256.256.256", "1.2.3.4.256", "256.2.3.4.5", "1.2.3.4.99999999999999999999", "99999999999999999999.-1", "1.2.3.256..", "1.2.3.256.5",
	} {
		wantErrors(t, s, api.ErrForm)
	}
	for _, s := range []string{"256.4294967296", "1.256.1", "256.1", "1.2.3.256", "256.256.256.256", "1.65536.1", "1.2.65536", "1.16777216"} {
		wantErrors(t, s, api.ErrHost)
	}
}

// P7.1: names that end as an address, and others.
func TestEndsOfNames(t *testing.T) {
	for s, want := range map[string]bool{
		"1": true, "a.1": true, "a.b.1": true, ".1": true, "..1": true, "a..1": true, "a.09": true, "a.08": true, "08": true, "09": true, "a.0x": true, "a.0X": true, "a.0xfF": true, "a.00": true, "a.0": true,
		"a.99999999999999999999999": true, "a.0xffffffffffffffffffffffff": true, "\xff.1": true, "1.2.3.4.5.6.7.8": true, "a b.1": true, "256": true, "1.256.3": true,
		"a": false, "a.b": false, "1.a": false, "1.2.3.a": false, "1a": false, "a1": false, "a.1a": false, "a.a1": false, "a.0xg": false, "a.0xfg": false, "a.x0": false, "a.-1": false, "a.+1": false,
		"a. 1": false, "a.1 ": false, "1. ": false, "a.0x1.b": false, "example.com": false, "1.com": false, "a.\u0661": false, "a.0b": false, "a.08a": false, "a.08x": false,
	} {
		wantEnds(t, s, want)
		wantEnds(t, s+".", want)
		wantEnds(t, s+"..", false)
		wantEnds(t, s+"...", false)
	}
}

// P7.1 to P7.3: all short names of edge bytes, held against the document's words.
func TestWordByWord(t *testing.T) {
	bytes := "0178.xXaFg \xff"
	var grow func(name string, most int)
	grow = func(name string, most int) {
		check(t, name)
		if len(name) == most {
			return
		}
		for at := range len(bytes) {
			grow(name+bytes[at:at+1], most)
		}
	}
	grow("", 5)
	bytes = "01.x"
	grow("", 9)
}

// P7.1 to P7.3: names by chance, held against the document's words.
func TestWordByWordByChance(t *testing.T) {
	parts := []string{
		"", "0", "1", "9", "10", "255", "256", "0377", "0400", "0xff", "0x100", "0XFF", "00", "08", "0x", "0X", "0xg", "a", "65535", "65536", "0xffff", "0x10000", "16777215", "16777216", "0xFFFFFF", "0x1000000",
		"4294967295", "4294967296", "0xffffffff", "0x100000000", "037777777777", "040000000000", "18446744073709551615", "18446744073709551616", "18446744073709551617", "0x10000000000000001", "02000000000000000000001", "-1", "+1", " 1", "1 ", "\xe9",
	}
	chance := rand.New(rand.NewSource(7))
	for range 200000 {
		name := parts[chance.Intn(len(parts))]
		for range chance.Intn(6) {
			name += "." + parts[chance.Intn(len(parts))]
		}
		check(t, name)
	}
}

// P7.2: Text of 0, of the greatest address, and of each byte alone.
func TestText(t *testing.T) {
	for a, want := range map[uint32]string{
		0: "0.0.0.0", 1<<32 - 1: "255.255.255.255", 1: "0.0.0.1", 1 << 8: "0.0.1.0", 1 << 16: "0.1.0.0", 1 << 24: "1.0.0.0", 1 << 31: "128.0.0.0", 0x7F000001: "127.0.0.1", 0xC0A80001: "192.168.0.1",
		0x01020304: "1.2.3.4", 0x0A64FF09: "10.100.255.9", 0x00FF00FF: "0.255.0.255", 0xFF00FF00: "255.0.255.0", 0x000000FF: "0.0.0.255",
	} {
		if got := Text(a); got != want {
			t.Errorf("Text(%#x): %q, want %q", a, got, want)
		}
	}
	for b := range uint32(256) {
		for a, want := range map[uint32]string{b << 24: fmt.Sprintf("%d.0.0.0", b), b << 16: fmt.Sprintf("0.%d.0.0", b), b << 8: fmt.Sprintf("0.0.%d.0", b), b: fmt.Sprintf("0.0.0.%d", b), b * 0x01010101: fmt.Sprintf("%d.%d.%d.%d", b, b, b, b)} {
			if got := Text(a); got != want {
				t.Errorf("Text(%#x): %q, want %q", a, got, want)
			}
		}
	}
}

// P7.3: what Text tells is parsed to what it was, and ends as an address.
func TestThereAndBack(t *testing.T) {
	thereAndBack(t, 0)
	thereAndBack(t, 1<<32-1)
	for b := range uint32(256) {
		for shift := 0; shift < 32; shift += 8 {
			thereAndBack(t, b<<shift)
			thereAndBack(t, ^(b << shift))
		}
		thereAndBack(t, b*0x01010101)
	}
	chance := rand.New(rand.NewSource(73))
	for range 200000 {
		thereAndBack(t, chance.Uint32())
	}
}

// P7.3: an address is parsed alike, whichever way it is written, and told one way.
func TestOneAddressInManyForms(t *testing.T) {
	chance := rand.New(rand.NewSource(74))
	forms := []string{"%d", "0%o", "0x%x", "0X%X", "000%o", "0x00%x"}
	for range 50000 {
		a := chance.Uint32()
		count := 1 + chance.Intn(4)
		var name strings.Builder
		for place := range count - 1 {
			fmt.Fprintf(&name, forms[chance.Intn(len(forms))]+".", a>>(24-8*place)&255)
		}
		fmt.Fprintf(&name, forms[chance.Intn(len(forms))], uint64(a)&(1<<(8*(5-count))-1))
		wantAddress(t, name.String(), a)
		if got, _ := Parse(name.String()); Text(got) != Text(a) {
			t.Errorf("%q: %q, want %q", name.String(), Text(got), Text(a))
		}
	}
}

// P1: very long names end, too.
func TestOfLongNames(t *testing.T) {
	const long = 1 << 22
	for _, piece := range []string{".", "1.", "a.", "0x.", "08"} {
		s := strings.Repeat(piece, long)
		wantError(t, s, api.ErrForm)
		wantEnds(t, s, piece != "." && piece != "a.")
	}
	wantError(t, strings.Repeat("1", long), api.ErrHost)
	wantEnds(t, strings.Repeat("1", long), true)
	wantAddress(t, strings.Repeat("0", long), 0)
}
