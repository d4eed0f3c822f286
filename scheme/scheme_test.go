package scheme

import (
	"errors"
	"math/big"
	"math/rand"
	"slices"
	"strconv"
	"strings"
	"testing"

	"gatepost/api"
	"gatepost/fail"
)

// errnos are all numbers that an error may wrap.
var errnos = []api.Errno{api.ErrArg, api.ErrForm, api.ErrHost, api.ErrPort, api.ErrBase, api.ErrTooLong, api.ErrStale, api.ErrFull, api.ErrClosed, api.ErrNone}

// six are the special schemes, and their ports, by the document's list, one by one.
var six = []struct {
	name string
	port int
}{{"ftp", 21}, {"file", -1}, {"http", 80}, {"https", 443}, {"ws", 80}, {"wss", 443}}

const (
	small   = "abcdefghijklmnopqrstuvwxyz"
	capital = "ABCDEFGHIJKLMNOPQRSTUVWXYZ"
	letters = small + capital
	figures = "0123456789"
)

// strange are bytes that no scheme and no port has: blanks, neighbours of letters and figures, and some from 128 on, of which some look like a letter or a figure.
var strange = []string{" ", "\t", "\n", "\r", "\x00", "/", "@", "[", "`", "{", "_", ",", "%", "!", "*", "#", "?", "\\", "\x7f", "\x80", "\xb0", "\xe1", "\xe9", "\xff", "\u00e9", "\u00b2", "\u0130", "\u0131", "\u017f", "\u0661", "\u212a", "\uff10", "\uff21", "\uff41", "\uff1a", "\U0001d7ce", "\ufeff"}

// short is a text that may be long, as far as it is of use in a message.
func short(s string) string {
	if len(s) > 200 {
		return s[:200] + ".."
	}
	return s
}

// mayBy is May, by the document's words.
func mayBy(s string) bool {
	if s == "" || !strings.Contains(letters, s[:1]) {
		return false
	}
	for at := 1; at < len(s); at++ {
		if !strings.Contains(letters+figures+"+-.", s[at:at+1]) {
			return false
		}
	}
	return true
}

// smallBy is a text with small letters in place of capital ones.
func smallBy(s string) string {
	bytes := []byte(s)
	for at, b := range bytes {
		if place := strings.IndexByte(capital, b); place >= 0 {
			bytes[at] = small[place]
		}
	}
	return string(bytes)
}

// cutBy is Cut, by the document's words.
func cutBy(s string) (string, string, bool) {
	for at := range len(s) {
		if s[at] == ':' {
			if !mayBy(s[:at]) {
				return "", s, false
			}
			return smallBy(s[:at]), s[at+1:], true
		}
	}
	return "", s, false
}

// defaultBy is Default, by the document's list.
func defaultBy(s string) int {
	for _, one := range six {
		if s == one.name {
			return one.port
		}
	}
	return -1
}

// portBy is Port, by the document's words, of numbers of any size; false, where there is an error.
func portBy(s, scheme string) (int, bool) {
	if s == "" {
		return -1, true
	}
	if strings.Trim(s, figures) != "" {
		return 0, false
	}
	number, _ := new(big.Int).SetString(s, 10)
	if number.Cmp(big.NewInt(65535)) > 0 {
		return 0, false
	}
	if port := int(number.Int64()); port != defaultBy(scheme) {
		return port, true
	}
	return -1, true
}

// wantSpecial asks Special and Default of a text.
func wantSpecial(t *testing.T, s string, special bool, port int) {
	t.Helper()
	if got := Special(s); got != special {
		t.Errorf("Special(%q): %v, want %v", short(s), got, special)
	}
	if got := Default(s); got != port {
		t.Errorf("Default(%q): %d, want %d", short(s), got, port)
	}
}

// wantMay asks May of a text.
func wantMay(t *testing.T, s string, want bool) {
	t.Helper()
	if got := May(s); got != want {
		t.Errorf("May(%q): %v, want %v", short(s), got, want)
	}
}

// wantCut asks Cut of a text that begins with a scheme and a colon; P10.4: what is told is cut to itself.
func wantCut(t *testing.T, s, scheme, behind string) {
	t.Helper()
	for _, text := range []string{s, scheme + ":" + behind} {
		got, rest, ok := Cut(text)
		if got != scheme || rest != behind || !ok {
			t.Errorf("Cut(%q): %q, %q, %v, want %q, %q", short(text), short(got), short(rest), ok, short(scheme), short(behind))
		}
	}
	wantMay(t, scheme, true)
}

// wantWhole asks Cut of a text that doesn't begin so.
func wantWhole(t *testing.T, s string) {
	t.Helper()
	if got, rest, ok := Cut(s); got != "" || rest != s || ok {
		t.Errorf("Cut(%q): %q, %q, %v, want it whole", short(s), short(got), short(rest), ok)
	}
}

// wantPort asks Port of a text that tells one, or none.
func wantPort(t *testing.T, s, scheme string, want int) {
	t.Helper()
	if got, e := Port(s, scheme); e != nil || got != want {
		t.Errorf("Port(%q, %q): %d, %v, want %d", short(s), scheme, got, e, want)
	}
}

// wantNoPort asks Port of a text that is none, for schemes with and without a port.
func wantNoPort(t *testing.T, s string) {
	t.Helper()
	for _, scheme := range []string{"", "a", "HTTP", "ftp", "file", "http", "https", "ws", "wss"} {
		got, e := Port(s, scheme)
		if got != 0 || e == nil || fail.Code(e) != api.ErrPort {
			t.Errorf("Port(%q, %q): %d, %v, want an error that wraps %v", short(s), scheme, got, e, api.ErrPort)
		}
		for _, number := range errnos {
			if errors.Is(e, number) != (number == api.ErrPort) {
				t.Errorf("Port(%q, %q): %v, and %v", short(s), scheme, e, number)
			}
		}
	}
}

// check holds all calls of a text against the document's words.
func check(t *testing.T, s string) {
	t.Helper()
	wantSpecial(t, s, slices.Contains([]string{"ftp", "file", "http", "https", "ws", "wss"}, s), defaultBy(s))
	wantMay(t, s, mayBy(s))
	if scheme, behind, ok := cutBy(s); ok {
		wantCut(t, s, scheme, behind)
	} else {
		wantWhole(t, s)
	}
	if _, ok := portBy(s, ""); !ok {
		wantNoPort(t, s)
		return
	}
	for _, scheme := range []string{"", "a", "HTTPS", "ftp", "file", "http", "https", "ws", "wss"} {
		want, _ := portBy(s, scheme)
		wantPort(t, s, scheme, want)
	}
}

// P10.1: the six schemes.
func TestSpecialAndDefaultOfTheSix(t *testing.T) {
	for _, one := range six {
		wantSpecial(t, one.name, true, one.port)
		wantMay(t, one.name, true)
	}
}

// P10.1: each of the six with a capital letter, or with all of them, is another scheme.
func TestSpecialAndDefaultOfCapitals(t *testing.T) {
	for _, one := range six {
		for at := range len(one.name) {
			s := one.name[:at] + strings.ToUpper(one.name[at:at+1]) + one.name[at+1:]
			wantSpecial(t, s, false, -1)
			wantMay(t, s, true)
		}
		wantSpecial(t, strings.ToUpper(one.name), false, -1)
		wantMay(t, strings.ToUpper(one.name), true)
	}
}

// P10.1: each of the six with any byte more at any place, with one byte less, or with another one in its stead, is another scheme; only http and ws become https and wss.
func TestSpecialAndDefaultOfNeighbours(t *testing.T) {
	for _, one := range six {
		for at := range len(one.name) + 1 {
			for b := range 256 {
				check(t, one.name[:at]+string([]byte{byte(b)})+one.name[at:])
				if at < len(one.name) {
					check(t, one.name[:at]+string([]byte{byte(b)})+one.name[at+1:])
				}
			}
			if at < len(one.name) {
				check(t, one.name[:at]+one.name[at+1:])
			}
		}
	}
	for _, s := range []string{"tp", "fp", "ft", "ile", "fie", "fil", "ttp", "htp", "htt", "ttps", "htts", "w", "s", "ss", "ftps", "files", "httpss", "wsss", "xftp", "xhttp", "hhttp", "wws", "ftp.", "ws-"} {
		wantSpecial(t, s, false, -1)
		wantMay(t, s, true)
	}
	for _, s := range []string{"http:", " http", "https ", "ws\x00", "\x00wss", "ftp/", ":file", "http\n", "htt\u1e57"} {
		wantSpecial(t, s, false, -1)
		wantMay(t, s, false)
	}
}

// P10.1: no bytes, and schemes that have no rules of their own.
func TestSpecialAndDefaultOfOthers(t *testing.T) {
	wantSpecial(t, "", false, -1)
	wantMay(t, "", false)
	for _, s := range []string{"data", "blob", "mailto", "about", "javascript", "gopher", "a", "httphttp", "http+ws", strings.Repeat("http", 10000)} {
		wantSpecial(t, s, false, -1)
		wantMay(t, s, true)
	}
	if api.NoPort != -1 {
		t.Errorf("NoPort is %d", api.NoPort)
	}
}

// P10.1: each single byte; only a letter may be alone.
func TestMayOfEachByte(t *testing.T) {
	for b := range 256 {
		wantMay(t, string([]byte{byte(b)}), strings.IndexByte(letters, byte(b)) >= 0)
	}
}

// P10.1: each byte behind a letter, and amid letters.
func TestMayOfEachByteBehindALetter(t *testing.T) {
	for b := range 256 {
		one := string([]byte{byte(b)})
		want := strings.Contains(letters+figures+"+-.", one)
		for _, ahead := range []string{"a", "z", "A", "Z", "m", "http", "a1", "a+", strings.Repeat("a", 5000)} {
			wantMay(t, ahead+one, want)
			wantMay(t, ahead+one+"b", want)
			wantMay(t, ahead+one+one, want)
			wantMay(t, ahead+one+strings.Repeat("9", 5000), want)
		}
	}
}

// P10.1: whatever is behind, no scheme begins with a byte that is no letter.
func TestMayOfEachByteAhead(t *testing.T) {
	for b := range 256 {
		one := string([]byte{byte(b)})
		for _, behind := range []string{"a", "Z", "http", "1", "+", "-", ".", "1a", strings.Repeat("a", 5000)} {
			wantMay(t, one+behind, strings.Contains(letters, one))
		}
	}
	for _, s := range []string{"1", "+a", "-a", ".a", "1+-.a", "0http", "12", "+-."} {
		wantMay(t, s, false)
	}
	for _, s := range []string{"a+-.9", "A0", "z.", "Z-", "h2", "coap+tcp", "a+", "a....", "svn+ssh"} {
		wantMay(t, s, true)
	}
}

// P10.2: texts without a colon.
func TestCutWithoutAColon(t *testing.T) {
	for _, s := range []string{"", "a", "http", "HTTP", "ab", "1", "http//x", " ", "\xff", "a;b", "http\uff1ax", "a\uff1a", "\u02d0", strings.Repeat("a", 70000)} {
		wantWhole(t, s)
	}
	for b := range 256 {
		if b != ':' {
			wantWhole(t, string([]byte{byte(b)}))
			wantWhole(t, "http"+string([]byte{byte(b)})+"x")
		}
	}
}

// P10.2: a colon that nothing is ahead of; the first colon counts, so a scheme behind it is none.
func TestCutOfAColonAhead(t *testing.T) {
	for _, s := range []string{":", "::", ":::", ":x", ":http", ":http:", ":http:x", "::http:x", ": ", ":\xff", ":" + strings.Repeat("a", 70000)} {
		wantWhole(t, s)
	}
}

// P10.2: a colon behind a scheme, with something, or nothing, behind it.
func TestCutBehindAScheme(t *testing.T) {
	for _, one := range six {
		for _, behind := range []string{"", "x", "X", "//A/B", " ", "\x00", "\xff\xfe", "\u00c9", "1", strings.Repeat("aB", 35000)} {
			wantCut(t, one.name+":"+behind, one.name, behind)
			wantCut(t, strings.ToUpper(one.name)+":"+behind, one.name, behind)
		}
	}
	for s, want := range map[string]string{"a:": "a", "Z:": "z", "a+-.9:": "a+-.9", "A+-.9Z:": "a+-.9z", "z0:": "z0", "Svn+SSH:": "svn+ssh"} {
		wantCut(t, s, want, "")
	}
	wantCut(t, letters+figures+"+-.:"+letters, small+small+figures+"+-.", letters)
	long := strings.Repeat("aB", 35000)
	wantCut(t, long+":x", strings.ToLower(long), "x")
}

// P10.2: only what is ahead of the first colon goes, and a colon behind it stays.
func TestCutOfSeveralColons(t *testing.T) {
	wantCut(t, "a::", "a", ":")
	wantCut(t, "a::b", "a", ":b")
	wantCut(t, "HTTP:x:y", "http", "x:y")
	wantCut(t, "http:HTTP:X", "http", "HTTP:X")
	wantCut(t, "a:1:", "a", "1:")
	wantCut(t, "http:x"+strings.Repeat(":", 1000), "http", "x"+strings.Repeat(":", 1000))
	wantWhole(t, "1a:b:c")
	wantWhole(t, "1:http:x")
	wantWhole(t, "a b:http:x")
	wantWhole(t, "\xe9:http:x")
}

// P10.2: what is ahead of the colon is no scheme; the text stays as it is, its capital letters too.
func TestCutOfNoScheme(t *testing.T) {
	for _, s := range []string{"1a:b", "1:b", "0:", "9HTTP:X", "+a:b", "-a:b", ".a:b", " a:b", " HTTP:X", "\thttp:x", "a b:c", "http :x", "HT TP:X", "a_b:c", "a/b:c", "/a:b", "#a:b", "?a:b", "a#b:c", "a?b:c", "a@b:c", "[a]:b", "\\a:b", "\xe9:", "\xffHTTP:X", "HTTP\xff:X", "HT\x80TP:X", "\u00c9A:B", "A\u00c9:B", "\u017fA:B", "A\u017f:B", "\u212aA:B", "A\u212a:B", "A\u0130:B", "\uff21:B", "A\uff21:B", "a\x00:b"} {
		wantWhole(t, s)
	}
	for _, odd := range strange {
		for _, s := range []string{odd + ":b", odd + "A:b", "A" + odd + ":b", "A" + odd + "A:b", strings.Repeat("A", 1000) + odd + ":b"} {
			wantWhole(t, s)
		}
		wantCut(t, "A:"+odd, "a", odd)
	}
}

// P10.2: each byte ahead of a colon, and behind a letter that is.
func TestCutOfEachByte(t *testing.T) {
	for b := range 256 {
		one := string([]byte{byte(b)})
		for _, s := range []string{one + ":x", "Q" + one + ":x", one + "Q:x", "Q" + one + "Q:", "Q:" + one, ":" + one} {
			check(t, s)
		}
	}
	for at := range len(capital) {
		wantCut(t, capital[at:at+1]+":"+capital[at:at+1], small[at:at+1], capital[at:at+1])
		wantCut(t, "x"+capital[at:at+1]+":", "x"+small[at:at+1], "")
	}
}

// P10.3: no bytes are no port, of any scheme.
func TestPortOfNothing(t *testing.T) {
	for _, scheme := range []string{"", "a", ":", "\xff", "HTTP", "ftp", "file", "http", "https", "ws", "wss"} {
		wantPort(t, "", scheme, -1)
	}
}

// P10.3: each single byte.
func TestPortOfEachByte(t *testing.T) {
	for b := range 256 {
		s := string([]byte{byte(b)})
		if b < '0' || b > '9' {
			wantNoPort(t, s)
			continue
		}
		for _, scheme := range []string{"", "ftp", "file", "http", "https", "ws", "wss"} {
			wantPort(t, s, scheme, b-'0')
		}
	}
}

// P10.3: any byte that is no figure, ahead of figures, amid and behind; of figures beyond the bound, too.
func TestPortOfFiguresWithOthers(t *testing.T) {
	for b := range 256 {
		if b >= '0' && b <= '9' {
			continue
		}
		one := string([]byte{byte(b)})
		for _, s := range []string{one + "1", "1" + one + "2", "1" + one, one + one, "0" + one, one + "0", "00" + one + "80", "6553" + one, "65535" + one, "65536" + one, strings.Repeat("9", 100) + one, strings.Repeat("0", 100) + one, one + strings.Repeat("0", 100)} {
			wantNoPort(t, s)
		}
	}
	for _, s := range []string{"-1", "+1", "-0", "+0", "-80", "+80", "8-0", "8+0", "80-", "80+", " 80", "8 0", "80 ", "a80", "8a0", "80a", "0x50", "0X50", "0b1", "0o7", "1e2", "1E2", "1.0", "80.", ".80", "8_0", "80,", ":80", "80:", "80/", "\t80", "80\n", "-65536", "\u0661", "8\u0660", "\uff18\uff10", "80\u00a0"} {
		wantNoPort(t, s)
	}
	for _, odd := range strange {
		for _, s := range []string{odd, odd + "80", "8" + odd + "0", "80" + odd} {
			wantNoPort(t, s)
		}
	}
}

// P10.3: the least and the greatest number, and those about, with and without noughts ahead.
func TestPortAtTheBounds(t *testing.T) {
	for s, want := range map[string]int{"0": 0, "00": 0, "000000": 0, "1": 1, "01": 1, "10": 10, "010": 10, "9": 9, "99": 99, "6553": 6553, "6554": 6554, "9999": 9999, "10000": 10000, "65529": 65529, "65530": 65530, "65534": 65534, "65535": 65535, "065535": 65535, "0065535": 65535, "32767": 32767, "32768": 32768} {
		for _, scheme := range []string{"", "a", "ftp", "file", "http", "https", "ws", "wss"} {
			wantPort(t, s, scheme, want)
		}
	}
	for _, s := range []string{"65536", "065536", "65537", "65539", "65540", "65545", "65600", "66000", "70000", "99999", "100000", "655350", "655360", "131071", "131072", "131152", "65616", "65979", "65557"} {
		wantNoPort(t, s)
	}
}

// P10.3: each number that is a port, and as many above them.
func TestPortOfEachNumber(t *testing.T) {
	for number := range 131073 {
		s := strconv.Itoa(number)
		got, e := Port(s, "https")
		switch {
		case number == 443:
			if got != -1 || e != nil {
				t.Errorf("%s: %d, %v", s, got, e)
			}
		case number > 65535:
			if got != 0 || fail.Code(e) != api.ErrPort {
				t.Errorf("%s: %d, %v", s, got, e)
			}
		case got != number || e != nil:
			t.Errorf("%s: %d, %v", s, got, e)
		}
	}
}

// P10.3: figures so many that no int holds their number, also those that would wrap round to a port, and noughts so many ahead of one.
func TestPortOfManyFigures(t *testing.T) {
	for _, s := range []string{"2147483647", "2147483648", "4294967295", "4294967296", "4294967376", "9223372036854775807", "9223372036854775808", "18446744073709551615", "18446744073709551616", "18446744073709551696", "18446744073709552059", "99999999999999999999999", "340282366920938463463374607431768211456", "340282366920938463463374607431768211536"} {
		wantNoPort(t, s)
		wantNoPort(t, "0"+s)
		wantNoPort(t, strings.Repeat("0", 1000)+s)
	}
	for power := uint(16); power <= 300; power++ {
		for _, more := range []int64{0, 1, 21, 80, 443, 65535} {
			number := new(big.Int).Lsh(big.NewInt(1), power)
			wantNoPort(t, number.Add(number, big.NewInt(more)).String())
		}
	}
	for _, count := range []int{5, 6, 9, 10, 19, 20, 21, 40, 1000, 70000} {
		wantNoPort(t, strings.Repeat("9", count+1))
		wantNoPort(t, "1"+strings.Repeat("0", count))
		wantNoPort(t, strings.Repeat("0", count)+"65536")
		noughts := strings.Repeat("0", count)
		for _, scheme := range []string{"", "file", "https"} {
			wantPort(t, noughts, scheme, 0)
			wantPort(t, noughts+"1", scheme, 1)
			wantPort(t, noughts+"65535", scheme, 65535)
		}
		wantPort(t, noughts+"443", "https", -1)
	}
}

// P10.3: each scheme's own port is none, with noughts ahead too, and another scheme's is one.
func TestPortOfEachScheme(t *testing.T) {
	ports := []int{21, 80, 443}
	for _, one := range six {
		for _, port := range ports {
			want := port
			if port == one.port {
				want = -1
			}
			for noughts := range 30 {
				s := strings.Repeat("0", noughts) + strconv.Itoa(port)
				wantPort(t, s, one.name, want)
				wantPort(t, s, strings.ToUpper(one.name), port)
				wantPort(t, s, strings.ToUpper(one.name[:1])+one.name[1:], port)
				wantPort(t, s, one.name+"s:", port)
				wantPort(t, s, "", port)
				wantPort(t, s, "blob", port)
				wantPort(t, s, "\xff", port)
			}
			for _, s := range []string{strconv.Itoa(port - 1), strconv.Itoa(port + 1), strconv.Itoa(port * 10), "1" + strconv.Itoa(port)} {
				want, _ := strconv.Atoi(s)
				wantPort(t, s, one.name, want)
			}
		}
	}
}

// P10.4: each scheme and a colon, ahead of any text, are cut from it.
func TestCutOfASchemeAheadOfTexts(t *testing.T) {
	chance := rand.New(rand.NewSource(10))
	rests := []string{"", ":", "::", "x", "x:y", ":x", "http:x", "HTTP://A:80/", "//a", " ", "\x00", "\xff:\xff", "\u00c9:", "1:2"}
	for range 300 {
		text := make([]byte, chance.Intn(12))
		for at := range text {
			text[at] = byte(chance.Intn(256))
		}
		rests = append(rests, string(text), string(text)+":", "A:"+string(text))
	}
	const bytes = letters + figures + "+-."
	for range 200 {
		scheme := []byte{letters[chance.Intn(len(letters))]}
		for range chance.Intn(8) {
			scheme = append(scheme, bytes[chance.Intn(len(bytes))])
		}
		wantMay(t, string(scheme), true)
		for _, rest := range rests {
			wantCut(t, string(scheme)+":"+rest, smallBy(string(scheme)), rest)
		}
	}
}

// P10.1 to P10.4: all short texts of bytes where the promises part.
func TestAllShortTexts(t *testing.T) {
	const edges = "aZ09+-.:/@ _\x80\xe9"
	var all func(ahead string, more int)
	all = func(ahead string, more int) {
		check(t, ahead)
		if more == 0 {
			return
		}
		for at := range len(edges) {
			all(ahead+edges[at:at+1], more-1)
		}
	}
	all("", 4)
}

// P10.1 to P10.4: texts by chance, from pieces of schemes, of ports and of what is neither.
func TestTextsByChance(t *testing.T) {
	chance := rand.New(rand.NewSource(11))
	pieces := slices.Concat(strange, []string{"ftp", "file", "http", "https", "ws", "wss", "s", "HTTP", "Ws", "x", "Q", "+", "-", ".", ":", ":", ":", "//", "0", "00", "21", "80", "443", "65535", "65536", "9999999999"})
	for range 20000 {
		var text strings.Builder
		for range 1 + chance.Intn(4) {
			text.WriteString(pieces[chance.Intn(len(pieces))])
		}
		check(t, text.String())
	}
}

// The chapter's examples.
func TestExamples(t *testing.T) {
	wantCut(t, "HTTP:x", "http", "x")
	wantPort(t, "0443", "https", -1)
}
