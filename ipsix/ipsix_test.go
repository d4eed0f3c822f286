package ipsix

import (
	"errors"
	"fmt"
	"math/rand"
	"net/netip"
	"regexp"
	"strconv"
	"strings"
	"testing"

	"gatepost/api"
	"gatepost/fail"
)

// address is what Parse tells.
type address = [8]uint16

// errnos are all numbers that an error may wrap.
var errnos = []api.Errno{api.ErrArg, api.ErrForm, api.ErrHost, api.ErrPort, api.ErrBase, api.ErrTooLong, api.ErrStale, api.ErrFull, api.ErrClosed, api.ErrNone}

// noFigures are bytes that are no figure, neither by base 16 nor by base 10, and no colon or dot: signs, blanks, brackets, the neighbours of figures, and some from 128 on.
var noFigures = []string{"+", "-", "_", " ", "\t", "\n", "\r", "\x00", "/", ";", "@", "G", "`", "g", "x", "X", "z", "%", "%25", "%eth0", "%30", ",", "[", "]", "(", "\x7f", "\x80", "\xb1", "\xff", "\u00b2", "\u0661", "\uff11", "\uff21", "\uff1a", "\u3002"}

// short is a text that may be long, as far as it is of use in a message.
func short(s string) string {
	if len(s) > 200 {
		return s[:200] + ".."
	}
	return s
}

// wantAddress asks Parse of a text that is an address.
func wantAddress(t *testing.T, s string, want address) {
	t.Helper()
	if got, e := Parse(s); e != nil || got != want {
		t.Errorf("Parse(%q): %x, %v, want %x", short(s), got, e, want)
	}
}

// wantNone asks Parse of a text that is none.
func wantNone(t *testing.T, s string) {
	t.Helper()
	got, e := Parse(s)
	if got != (address{}) || e == nil || fail.Code(e) != api.ErrForm {
		t.Errorf("Parse(%q): %x, %v, want eight noughts and an error that wraps %v", short(s), got, e, api.ErrForm)
	}
	for _, number := range errnos {
		if errors.Is(e, number) != (number == api.ErrForm) {
			t.Errorf("Parse(%q): %v, and %v", short(s), e, number)
		}
	}
}

// wantText asks Text of an address, and Parse of what it tells.
func wantText(t *testing.T, a address, want string) {
	t.Helper()
	if got := Text(a); got != want {
		t.Errorf("Text(%x): %q, want %q", a, got, want)
	}
	thereAndBack(t, a)
}

// thereAndBack asks whether an address is told there and back, by 39 bytes at most (P8.3).
func thereAndBack(t *testing.T, a address) {
	t.Helper()
	s := Text(a)
	if len(s) > 39 {
		t.Errorf("Text(%x): %q has %d bytes", a, s, len(s))
	}
	wantAddress(t, s, a)
}

// The document's words, as patterns: a piece, a number of a quad, a quad at the end, eight pieces, and pieces on both sides of a pair.
const (
	pieceWord  = `[0-9A-Fa-f]{1,4}`
	numberWord = `([0-9]|[1-9][0-9]|1[0-9][0-9]|2[0-4][0-9]|25[0-5])`
	listWord   = pieceWord + `(?::` + pieceWord + `)*`
)

var (
	quadAtEnd = regexp.MustCompile(`(?:^|:)` + numberWord + `\.` + numberWord + `\.` + numberWord + `\.` + numberWord + `\z`)
	eight     = regexp.MustCompile(`^` + pieceWord + `(?::` + pieceWord + `){7}\z`)
	twoSides  = regexp.MustCompile(`^(` + listWord + `)?::(` + listWord + `)?\z`)
)

// parseBy is Parse, by the document's words: a quad is written as two pieces, a pair as the noughts that are wanting.
func parseBy(s string) (a address, ok bool) {
	if at := quadAtEnd.FindStringSubmatchIndex(s); at != nil {
		var numbers [4]int
		for place := range numbers {
			numbers[place], _ = strconv.Atoi(s[at[2+2*place]:at[3+2*place]])
		}
		s = s[:at[2]] + fmt.Sprintf("%02x%02x:%02x%02x", numbers[0], numbers[1], numbers[2], numbers[3])
	}
	if sides := twoSides.FindStringSubmatch(s); sides != nil {
		words := strings.FieldsFunc(s, func(c rune) bool { return c == ':' })
		if len(words) > 7 {
			return a, false
		}
		noughts := strings.Repeat(":0", 8-len(words))[1:]
		s = strings.Trim(sides[1]+":"+noughts+":"+sides[2], ":")
	}
	if !eight.MatchString(s) {
		return a, false
	}
	for place, word := range strings.Split(s, ":") {
		value, _ := strconv.ParseInt(word, 16, 32)
		a[place] = uint16(value)
	}
	return a, true
}

// textBy is Text, by the document's words: of all runs of two and more the first one of the longest is cut out.
func textBy(a address) string {
	text := strings.Trim(fmt.Sprintf("%x", a), "[]")
	text = ":" + strings.ReplaceAll(text, " ", ":") + ":"
	for length := 8; length >= 2; length-- {
		run := ":" + strings.Repeat("0:", length)
		if at := strings.Index(text, run); at >= 0 {
			ahead, behind := text[:at], text[at+len(run):]
			return strings.TrimPrefix(ahead, ":") + "::" + strings.TrimSuffix(behind, ":")
		}
	}
	return strings.Trim(text, ":")
}

// check holds Parse of a text against the document's words, and Text of what it tells; P8.3: that is told there and back.
func check(t *testing.T, s string) {
	t.Helper()
	want, ok := parseBy(s)
	if !ok {
		wantNone(t, s)
		return
	}
	wantAddress(t, s, want)
	wantText(t, want, textBy(want))
}

// checkLibrary holds Parse of a text against the library's reader, which takes zones and IPv4 addresses, too.
func checkLibrary(t *testing.T, s string) {
	t.Helper()
	told, e := netip.ParseAddr(s)
	_, mine := Parse(s)
	if taken := e == nil && told.Is6() && told.Zone() == ""; taken != (mine == nil) {
		t.Errorf("Parse(%q): %v, and of the library: %v, %v", short(s), mine, told, e)
	} else if taken {
		bytes := told.As16()
		var want address
		for place := range want {
			want[place] = uint16(bytes[2*place])<<8 | uint16(bytes[2*place+1])
		}
		wantAddress(t, s, want)
	}
}

// counted are so many pieces, from a first one on, with colons between.
func counted(first, count int) string {
	var words []string
	for at := range count {
		words = append(words, strconv.Itoa(first+at))
	}
	return strings.Join(words, ":")
}

// splitAt is an address by so many pieces ahead of noughts and so many behind them, as counted writes them.
func splitAt(ahead, behind int) (a address) {
	for at := range ahead {
		a[at] = uint16(1 + at)
	}
	for at := range behind {
		a[8-behind+at] = uint16(1 + ahead + at)
	}
	return a
}

// P8.1: the empty text, and colons alone.
func TestParseOfColonsAlone(t *testing.T) {
	wantNone(t, "")
	for colons := 1; colons <= 20; colons++ {
		s := strings.Repeat(":", colons)
		if colons == 2 {
			wantAddress(t, s, address{})
			continue
		}
		wantNone(t, s)
	}
}

// P8.1: one to nine pieces, and more, with colons between; with a colon alone at the begin, at the end, and at both.
func TestParseOfEachCount(t *testing.T) {
	for count := 1; count <= 20; count++ {
		s := counted(1, count)
		if count == 8 {
			wantAddress(t, s, splitAt(8, 0))
		} else {
			wantNone(t, s)
		}
		wantNone(t, ":"+s)
		wantNone(t, s+":")
		wantNone(t, ":"+s+":")
	}
	wantNone(t, counted(1, 4)+":"+strings.Repeat("0:", 4))
}

// P8.1: a pair at each place, with as many pieces as leave none, one and more to stand for; a colon more on either side, and a colon alone at the begin and at the end.
func TestParseOfAPair(t *testing.T) {
	for ahead := range 11 {
		for behind := range 11 {
			head, tail := counted(1, ahead), counted(1+ahead, behind)
			s := head + "::" + tail
			if ahead+behind <= 7 {
				wantAddress(t, s, splitAt(ahead, behind))
			} else {
				wantNone(t, s)
			}
			wantNone(t, ":"+s)
			wantNone(t, s+":")
			wantNone(t, head+":::"+tail)
			wantNone(t, head+"::::"+tail)
			wantNone(t, head+": :"+tail)
		}
	}
	for s, want := range map[string]address{
		"::":              {},
		"::1":             {7: 1},
		"1::":             {1},
		"1::2":            {0: 1, 7: 2},
		"1:2::":           {1, 2},
		"::1:2":           {6: 1, 7: 2},
		"0::0":            {},
		"::2:3:4:5:6:7:8": {0, 2, 3, 4, 5, 6, 7, 8},
		"1:2:3::5:6:7:8":  {1, 2, 3, 0, 5, 6, 7, 8},
		"1:2:3:4:5:6:7::": {1, 2, 3, 4, 5, 6, 7, 0},
		"fe80::1ff:fe23:4567:890a": {
			0: 0xFE80, 4: 0x1FF, 5: 0xFE23, 6: 0x4567, 7: 0x890A},
	} {
		wantAddress(t, s, want)
	}
}

// P8.1: two pairs, at each two places, and three colons at each one.
func TestParseOfTwoPairs(t *testing.T) {
	for count := 1; count <= 9; count++ {
		words := strings.Split(counted(1, count), ":")
		for first := 0; first <= count; first++ {
			head := strings.Join(words[:first], ":")
			for second := first + 1; second <= count; second++ {
				between, tail := strings.Join(words[first:second], ":"), strings.Join(words[second:], ":")
				wantNone(t, head+"::"+between+"::"+tail)
				wantNone(t, head+"::"+between+":::"+tail)
				wantNone(t, head+":::"+between+"::"+tail)
			}
			wantNone(t, head+":::"+strings.Join(words[first:], ":"))
		}
	}
	for _, s := range []string{"1:0:0:2:::", "1::2::3", "::1::", "::::1", "1::::", "1:::", ":::1", "::1:2:3:4:5:6:7::", "1::1.2.3.4::", "::1::1.2.3.4"} {
		wantNone(t, s)
	}
}

// P8.1: pieces of no, one, four and five figures, at each place.
func TestParseOfEachPiece(t *testing.T) {
	for word, want := range map[string]uint16{
		"0": 0, "9": 9, "a": 10, "A": 10, "f": 15, "F": 15, "00": 0, "0000": 0, "0001": 1, "001": 1, "01": 1, "000a": 10, "0A": 10, "10": 16, "ff": 255, "100": 256, "0100": 256, "FfF": 4095, "1000": 4096, "0fff": 4095,
		"1234": 0x1234, "5678": 0x5678, "90ab": 0x90AB, "cdef": 0xCDEF, "CDEF": 0xCDEF, "AbCd": 0xABCD, "0b1": 0xB1, "ffff": 65535, "FFFF": 65535, "8000": 32768, "7fff": 32767,
	} {
		for place := range 8 {
			words := strings.Split("1:2:3:4:5:6:7:8", ":")
			words[place] = word
			a := splitAt(8, 0)
			a[place] = want
			wantAddress(t, strings.Join(words, ":"), a)
		}
		wantAddress(t, "::"+word, address{7: want})
		wantAddress(t, word+"::", address{want})
		wantAddress(t, "1::"+word+":2", address{0: 1, 6: want, 7: 2})
	}
}

// wantNowhere asks Parse of a word that is no piece at each place, and by a pair; as the last one it is no quad either.
func wantNowhere(t *testing.T, word string) {
	t.Helper()
	for place := range 8 {
		words := strings.Split("1:2:3:4:5:6:7:8", ":")
		words[place] = word
		wantNone(t, strings.Join(words, ":"))
		wantNone(t, strings.Join(words[:7], ":"))
	}
	for _, s := range []string{word, "::" + word, word + "::", "1::" + word, word + "::1", "1::2:" + word + ":3", "1:" + word + "::2", "1:2:3:4:5:6:" + word} {
		wantNone(t, s)
	}
}

// P8.1: words that are no pieces: of five figures and more, and with a byte that is no figure.
func TestParseOfNoPieces(t *testing.T) {
	for _, word := range []string{"00000", "00001", "12345", "fffff", "10000", "000000000000000000001", "fffffffffffffffff", strings.Repeat("0", 1000), "0x1", "0X1", "x1", "1h", "0o1", "1_0", "1.", ".1", ".", "1.2", "a.b", "g", "G"} {
		wantNowhere(t, word)
	}
	for _, b := range noFigures {
		for _, word := range []string{b, b + "1", "1" + b, "1" + b + "1", "12" + b + "4", "123" + b, "1234" + b, b + "1234"} {
			wantNowhere(t, word)
		}
	}
	for b := range 256 {
		s := string([]byte{byte(b)})
		for _, word := range []string{s, s + "1", "1" + s, "1" + s + "1", "abc" + s} {
			for _, text := range []string{"1:2:3:4:5:6:7:" + word, word + ":2:3:4:5:6:7:8", "::" + word, word + "::", "1:2:3:" + word + ":5:6:7:8", "1::" + word + ":1.2.3.4"} {
				check(t, text)
			}
		}
	}
}

// P8.1: signs around an address: blanks, brackets, zones and lines' ends.
func TestParseOfWhatStandsAround(t *testing.T) {
	for _, s := range []string{"1:2:3:4:5:6:7:8", "::", "::1", "1::", "1::2", "::1.2.3.4", "1:2:3:4:5:6:1.2.3.4"} {
		for _, b := range noFigures {
			wantNone(t, b+s)
			wantNone(t, s+b)
			wantNone(t, "["+s+b+"]")
		}
		for _, form := range []string{"[%s]", "[%s", "%s]", " %s ", "%s\n", "\n%s", "%s%%1", "%s%%25eth0", "%s/64", "%s.", ".%s", "%s:80", "\x00%s", "%s\x00", "\ufeff%s", "\"%s\""} {
			check(t, fmt.Sprintf(form, s))
		}
	}
	for _, s := range []string{"[::]", "[::1]", "::1%1", "::%", " ::", ":: ", ": :", "::1\n"} {
		wantNone(t, s)
	}
}

// P8.1: a quad at the end, behind pieces of each count, with and without a pair at each place.
func TestParseOfAQuad(t *testing.T) {
	for count := range 10 {
		words := counted(1, count)
		if count > 0 {
			words += ":"
		}
		s := words + "1.2.3.4"
		if count == 6 {
			want := splitAt(6, 0)
			want[6], want[7] = 0x102, 0x304
			wantAddress(t, s, want)
		} else {
			wantNone(t, s)
		}
		wantNone(t, ":"+s)
		wantNone(t, s+":")
		wantNone(t, s+"::")
		wantNone(t, s+":9")
		wantNone(t, s+"::9")
	}
	for ahead := range 9 {
		for behind := range 9 {
			s := counted(1, ahead) + "::" + counted(1+ahead, behind)
			if behind > 0 {
				s += ":"
			}
			s += "255.0.10.199"
			if ahead+behind > 5 {
				wantNone(t, s)
				continue
			}
			want := splitAt(ahead, 0)
			for at := range behind {
				want[6-behind+at] = uint16(1 + ahead + at)
			}
			want[6], want[7] = 0xFF00, 0x0AC7
			wantAddress(t, s, want)
		}
	}
	for s, want := range map[string]address{
		"::1.2.3.4":             {6: 0x102, 7: 0x304},
		"::ffff:127.0.0.1":      {5: 0xFFFF, 6: 0x7F00, 7: 1},
		"1::255.255.255.255":    {0: 1, 6: 0xFFFF, 7: 0xFFFF},
		"::0.0.0.0":             {},
		"1:2:3:4:5:6:1.2.3.4":   {1, 2, 3, 4, 5, 6, 0x102, 0x304},
		"1:2:3:4:5::1.2.3.4":    {1, 2, 3, 4, 5, 0, 0x102, 0x304},
		"::2:3:4:5:6:1.2.3.4":   {0, 2, 3, 4, 5, 6, 0x102, 0x304},
		"0:0:0:0:0:0:9.10.99.1": {6: 0x90A, 7: 0x6301},
	} {
		wantAddress(t, s, want)
	}
}

// P8.1: a quad that isn't at the end, is alone, or stands twice.
func TestParseOfAQuadElsewhere(t *testing.T) {
	const quad = "1.2.3.4"
	for _, s := range []string{
		quad, quad + ":", ":" + quad, quad + "::", quad + "::1", quad + ":1:2:3:4:5:6", "1:" + quad + ":2:3:4:5:6", "1:2:3:4:5:" + quad + ":6", "::" + quad + ":1", "::" + quad + "::", "1::" + quad + ":2", "1:" + quad + "::2", "1:" + quad + "::", quad + "::" + quad, "1:2:3:4:" + quad + ":" + quad, "::" + quad + ":" + quad, quad + ":" + quad + ":" + quad + ":" + quad, "::" + quad + quad, "1:2:3:4:5:6:7:" + quad, "1:2:3:4:5:6:7:8:" + quad, "1:2:3:4:5:6:7::" + quad, "1:2:3:4:5:6::" + quad, "::1:2:3:4:5:6:" + quad, "1:2:3:4:5:" + quad, ":::" + quad, "1:::" + quad, "::" + quad + ":",
	} {
		wantNone(t, s)
	}
}

// P8.1: numbers of a quad, at each place of it.
func TestParseOfEachNumber(t *testing.T) {
	quad := func(place int, word string) string {
		words := []string{"1", "2", "3", "4"}
		words[place] = word
		return strings.Join(words, ".")
	}
	for place := range 4 {
		for value := range 1100 {
			s := quad(place, strconv.Itoa(value))
			if value > 255 {
				wantNone(t, "::"+s)
				wantNone(t, "1:2:3:4:5:6:"+s)
				continue
			}
			numbers := [4]uint16{1, 2, 3, 4}
			numbers[place] = uint16(value)
			wantAddress(t, "::"+s, address{6: numbers[0]<<8 | numbers[1], 7: numbers[2]<<8 | numbers[3]})
		}
		words := []string{"", "00", "01", "001", "000", "010", "0255", "0377", "0x1", "0xff", "a", "1a", "a1", "ff", "F", "+1", "-1", "1+", "1 ", " 1", "256", "260", "300", "999", "1000", "2550", "65536", "4294967297", "18446744073709551617", strings.Repeat("1", 1000), strings.Repeat("0", 1000)}
		for _, b := range noFigures {
			words = append(words, b, b+"1", "1"+b, "1"+b+"1")
		}
		for _, word := range words {
			for _, ahead := range []string{"::", "1::", "::ffff:", "1:2:3:4:5:6:", "1:2:3:4:5::"} {
				wantNone(t, ahead+quad(place, word))
			}
		}
	}
}

// P8.1: quads of other counts of numbers, and with dots too many.
func TestParseOfNoQuads(t *testing.T) {
	for _, word := range []string{"1.2.3", "1.2", "1.", "1.2.", "1.2.3.", "1.2.3.4.5", "1.2.3.4.5.6", "1.2.3.4.", ".1.2.3.4", ".1.2.3", "1..2.3", "1..2.3.4", "1.2..3", "1.2.3..4", "1.2.3..", "..1.2", ".", "..", "...", "....", ".1", "1.2.3.4a", "1.2.3.a", "a.2.3.4", "1.2.3.4 ", "1.2.3.-4", "1.2.3.4.\x00", "1.2.3,4", "0.0.0", "0.0.0.0.0", "256.256.256.256", "1234.1.1.1", strings.Repeat("1.", 1000) + "1"} {
		for _, ahead := range []string{"::", "1::", "::ffff:", "1::2:", "1:2:3:4:5:6:", "1:2:3:4:5:6:7:", "1:2:3:4:5:", ""} {
			wantNone(t, ahead+word)
		}
	}
}

// P8.1 to P8.3: all short texts of edge bytes, held against the document's words, and the library's.
func TestWordByWord(t *testing.T) {
	var bytes string
	var grow func(text string, most int)
	grow = func(text string, most int) {
		check(t, text)
		checkLibrary(t, text)
		if len(text) == most {
			return
		}
		for at := range len(bytes) {
			grow(text+bytes[at:at+1], most)
		}
	}
	bytes = "01aF:.g%"
	grow("", 5)
	bytes = "1:"
	grow("", 15)
	bytes = "01.:"
	grow("::1.2.", 11)
	grow("1:2:3:4:5:", 15)
}

// P8.1 to P8.3: texts by chance of words that are pieces, quads and neither, with colons between, held against the document's words, and the library's.
func TestWordByWordByChance(t *testing.T) {
	pieces := []string{"0", "1", "a", "F", "00", "0000", "000f", "1234", "ffff", "ABCD", "10", "9"}
	words := []string{"", "", "", "12345", "g", "0x1", "1.2.3.4", "0.0.0.0", "255.255.255.255", "1.2.3", "1.2.3.256", "01.2.3.4", "1.2.3.4.5", "-1", "+1", " ", "1 ", "\xe9"}
	chance := rand.New(rand.NewSource(8))
	taken := 0
	for range 300000 {
		list := make([]string, 1+chance.Intn(10))
		for at := range list {
			list[at] = pieces[chance.Intn(len(pieces))]
		}
		for range chance.Intn(3) {
			list[chance.Intn(len(list))] = words[chance.Intn(len(words))]
		}
		s := strings.Join(list, ":")
		if chance.Intn(4) == 0 {
			s = ":" + s
		}
		if chance.Intn(4) == 0 {
			s += ":"
		}
		if chance.Intn(4) == 0 {
			s += ":" + words[6+chance.Intn(3)]
		}
		check(t, s)
		checkLibrary(t, s)
		if _, ok := parseBy(s); ok {
			taken++
		}
	}
	if taken < 10000 {
		t.Errorf("only %d texts are addresses", taken)
	}
}

// P8.1: one byte changed, left out or put in, of texts that are addresses, held against the document's words, and the library's.
func TestParseOfNeighbours(t *testing.T) {
	bytes := "0159afAFgG:. %-+[\x00\x80\xff"
	for _, s := range []string{"1:2:3:4:5:6:7:8", "::", "::1", "1::", "1::2", "1:2::3:4", "abcd:ef01:2345:6789:ABCD:EF01:2345:6789", "::1.2.3.4", "1::255.255.255.255", "1:2:3:4:5:6:10.20.30.40", "1:2:3:4:5::0.0.0.0", "1:2:3:4:5:6:7::", "::2:3:4:5:6:7:8"} {
		for at := range len(s) + 1 {
			for next := range len(bytes) {
				put := s[:at] + bytes[next:next+1] + s[at:]
				check(t, put)
				checkLibrary(t, put)
				if at < len(s) {
					changed := s[:at] + bytes[next:next+1] + s[at+1:]
					check(t, changed)
					checkLibrary(t, changed)
				}
			}
			if at < len(s) {
				check(t, s[:at]+s[at+1:])
				check(t, s[:at])
				check(t, s[at:])
			}
		}
	}
}

// P8.2: Text of noughts, of none, and of runs of each kind.
func TestText(t *testing.T) {
	for want, a := range map[string]address{
		"::":                     {},
		"1:2:3:4:5:6:7:8":        {1, 2, 3, 4, 5, 6, 7, 8},
		"::1":                    {7: 1},
		"1::":                    {0: 1},
		"1::2":                   {0: 1, 7: 2},
		"0:2:3:4:5:6:7:8":        {0, 2, 3, 4, 5, 6, 7, 8},
		"1:0:3:4:5:6:7:8":        {1, 0, 3, 4, 5, 6, 7, 8},
		"1:2:3:4:5:6:7:0":        {1, 2, 3, 4, 5, 6, 7, 0},
		"0:2:0:4:0:6:0:8":        {0, 2, 0, 4, 0, 6, 0, 8},
		"1:0:3:0:5:0:7:0":        {1, 0, 3, 0, 5, 0, 7, 0},
		"::3:4:5:6:7:8":          {0, 0, 3, 4, 5, 6, 7, 8},
		"1::4:5:6:7:8":           {1, 0, 0, 4, 5, 6, 7, 8},
		"1:2:3:4:5:6::":          {1, 2, 3, 4, 5, 6, 0, 0},
		"1::2:0:0:3:4":           {1, 0, 0, 2, 0, 0, 3, 4},
		"::1:2:0:0:3:4":          {0, 0, 1, 2, 0, 0, 3, 4},
		"::1:0:0:2:0:0":          {0, 0, 1, 0, 0, 2, 0, 0},
		"0:0:1::1:0":             {0, 0, 1, 0, 0, 0, 1, 0},
		"0:0:1::":                {0, 0, 1, 0, 0, 0, 0, 0},
		"1:0:0:2::":              {1, 0, 0, 2, 0, 0, 0, 0},
		"1:0:0:2::3":             {1, 0, 0, 2, 0, 0, 0, 3},
		"::1:0:0:2":              {0, 0, 0, 0, 1, 0, 0, 2},
		"::1:0:0:0":              {0, 0, 0, 0, 1, 0, 0, 0},
		"0:0:0:1::":              {0, 0, 0, 1, 0, 0, 0, 0},
		"::1:0:0:0:2":            {0, 0, 0, 1, 0, 0, 0, 2},
		"0:1::":                  {1: 1},
		"::1:0":                  {6: 1},
		"1::1:0":                 {0: 1, 6: 1},
		"a:bc:def:1234:1:12:1:0": {0xA, 0xBC, 0xDEF, 0x1234, 1, 0x12, 1, 0},
		"f:ff:fff:ffff:1:10:100:0": {
			0xF, 0xFF, 0xFFF, 0xFFFF, 1, 0x10, 0x100, 0},
		"abcd:ef01:2345:6789:abcd:ef01:2345:6789": {0xABCD, 0xEF01, 0x2345, 0x6789, 0xABCD, 0xEF01, 0x2345, 0x6789},
		"ffff:ffff:ffff:ffff:ffff:ffff:ffff:ffff": {65535, 65535, 65535, 65535, 65535, 65535, 65535, 65535},
		"::ffff:102:304":  {5: 0xFFFF, 6: 0x102, 7: 0x304},
		"8000::":          {0x8000},
		"::10:100:1000":   {5: 0x10, 6: 0x100, 7: 0x1000},
		"::ffff:ffff":     {6: 65535, 7: 65535},
		"2001:db8::ff00":  {0x2001, 0xDB8, 0, 0, 0, 0, 0, 0xFF00},
		"2001:db8::1:0:0": {0x2001, 0xDB8, 0, 0, 0, 1, 0, 0},
	} {
		wantText(t, a, want)
	}
}

// P8.2, P8.3: each way in which pieces are 0 or not, by pieces of each count of figures; all of their texts differ.
func TestTextOfEachRun(t *testing.T) {
	seen := map[string]address{}
	for _, value := range []uint16{1, 0xA, 0x10, 0xFF, 0x100, 0xFFF, 0x1000, 0xFFFF} {
		for zeros := range 256 {
			var a address
			for place := range a {
				if zeros>>place&1 == 0 {
					a[place] = value
				}
			}
			wantText(t, a, textBy(a))
			if other, there := seen[Text(a)]; there && other != a {
				t.Errorf("Text(%x) and Text(%x): %q", a, other, Text(a))
			}
			seen[Text(a)] = a
		}
	}
	if len(seen) != 8*255+1 {
		t.Errorf("%d texts", len(seen))
	}
}

// P8.2, P8.3: each piece, at each place, there and back.
func TestTextOfEachPiece(t *testing.T) {
	for value := range 1 << 16 {
		place := value % 8
		var alone, among address
		alone[place] = uint16(value)
		for at := range among {
			among[at] = uint16(value * (at + 1))
		}
		wantText(t, alone, textBy(alone))
		wantText(t, among, textBy(among))
		words := strings.Split("1:2:3:4:5:6:7:8", ":")
		words[place] = strconv.FormatInt(int64(value), 16)
		full := splitAt(8, 0)
		full[place] = uint16(value)
		wantText(t, full, strings.Join(words, ":"))
	}
}

// P8.3: addresses by chance there and back; the longest text has 39 bytes.
func TestThereAndBack(t *testing.T) {
	var most address
	for at := range most {
		most[at] = 65535
	}
	if got := len(Text(most)); got != 39 {
		t.Errorf("%d bytes", got)
	}
	chance := rand.New(rand.NewSource(83))
	for range 200000 {
		var a address
		for at := range a {
			if chance.Intn(2) == 0 {
				a[at] = uint16(chance.Uint32() >> chance.Intn(16) & 0xFFFF)
			}
		}
		wantText(t, a, textBy(a))
	}
}

// P8.3: addresses that differ in one piece are told by texts that differ.
func TestTextsDiffer(t *testing.T) {
	chance := rand.New(rand.NewSource(84))
	for range 100000 {
		var a address
		for at := range a {
			a[at] = uint16(chance.Intn(3) * chance.Intn(20))
		}
		b := a
		b[chance.Intn(8)] ^= 1 << chance.Intn(16)
		if Text(a) == Text(b) {
			t.Errorf("Text(%x) and Text(%x): %q", a, b, Text(a))
		}
	}
}

// P8.1: an address is parsed alike, whichever way it is written.
func TestOneAddressInManyForms(t *testing.T) {
	forms := []string{"%x", "%X", "%04x", "%04X", "%02x", "%03X"}
	chance := rand.New(rand.NewSource(85))
	for range 50000 {
		var a address
		var words []string
		for at := range a {
			a[at] = uint16(chance.Intn(2) * chance.Intn(1<<16))
			words = append(words, fmt.Sprintf(forms[chance.Intn(len(forms))], a[at]))
		}
		wantAddress(t, strings.Join(words, ":"), a)
		quad := fmt.Sprintf("%d.%d.%d.%d", a[6]>>8, a[6]&255, a[7]>>8, a[7]&255)
		wantAddress(t, strings.Join(words[:6], ":")+":"+quad, a)
		begin := chance.Intn(8)
		end := begin
		for end < 8 && a[end] == 0 {
			end++
			wantAddress(t, strings.Join(words[:begin], ":")+"::"+strings.Join(words[end:], ":"), a)
		}
		wantNone(t, strings.Join(words[:begin], ":")+"::"+strings.Join(words[begin:], ":"))
	}
}

// P1: very long texts end, too.
func TestOfLongTexts(t *testing.T) {
	const long = 1 << 22
	for _, word := range []string{":", "::", "1", "1:", ":1", "1::", ".", "1.", "::1.2.3.4", "a", "\xff"} {
		s := strings.Repeat(word, long)
		wantNone(t, s)
		wantNone(t, "::"+s)
		wantNone(t, s+"::")
		wantNone(t, "::1.2.3."+s)
		wantNone(t, "1:2:3:4:5:6:7:"+s)
	}
}
