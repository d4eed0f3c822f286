package parse

import (
	"errors"
	"fmt"
	"math/rand"
	"reflect"
	"slices"
	"strings"
	"testing"

	"gatepost/api"
	"gatepost/fail"
	"gatepost/record"
	"gatepost/scheme"
)

// errnos are all numbers that an error may wrap.
var errnos = []api.Errno{api.ErrArg, api.ErrForm, api.ErrHost, api.ErrPort, api.ErrBase, api.ErrTooLong, api.ErrStale, api.ErrFull, api.ErrClosed, api.ErrNone}

// none stands in the tables for no base.
const none = ""

// specials are the special schemes.
var specials = []string{"ftp", "file", "http", "https", "ws", "wss"}

// short is a text that may be long, as far as it is of use in a message.
func short(s string) string {
	if len(s) > 200 {
		return s[:200] + ".."
	}
	return s
}

// shown are a URL's fields, as far as they are of use in a message.
func shown(u api.URL) string { return short(fmt.Sprintf("%+v", u)) }

// mustParse is the URL of a text that is one; nil of no base.
func mustParse(t *testing.T, base string) *api.URL {
	t.Helper()
	if base == none {
		return nil
	}
	u, e := Parse(base, nil)
	if e != nil {
		t.Fatalf("the base %q: %v", short(base), e)
	}
	return &u
}

// lent is a base as it is handed in, with room behind its path, and what lies there; kept tells whether it stayed.
func lent(base *api.URL) (handed *api.URL, kept func() bool) {
	if base == nil {
		return nil, func() bool { return true }
	}
	memory := append(slices.Clone(base.Path), "lies behind", "lies behind")
	was := slices.Clone(memory)
	copied := *base
	copied.Path = memory[:len(base.Path)]
	before := copied
	return &copied, func() bool {
		return slices.Equal(memory, was) && record.Same(copied, before) && len(copied.Path) == len(base.Path)
	}
}

// ask is what Parse tells, by a base that stays as it is, whatever becomes of the path that was told.
func ask(t *testing.T, s string, base *api.URL) (api.URL, error) {
	t.Helper()
	handed, kept := lent(base)
	u, e := Parse(s, handed)
	told := slices.Clone(u.Path)
	for at := range u.Path {
		u.Path[at] = "written"
	}
	_ = append(u.Path, "written")
	if !kept() {
		t.Errorf("Parse(%q): the base %q was changed, or what was told shares its memory", short(s), record.Text(*base, false))
	}
	copy(u.Path, told)
	return u, e
}

// wantTwice holds a URL against what comes of its text: P13.5.
func wantTwice(t *testing.T, s string, u api.URL) {
	t.Helper()
	text := record.Text(u, false)
	again, e := Parse(text, nil)
	if e != nil || !record.Same(u, again) || record.Text(again, false) != text {
		t.Errorf("Parse(%q): %s, told as %q and parsed: %s, %v", short(s), shown(u), short(text), shown(again), e)
	}
}

// wantFields asks Parse for a URL.
func wantFields(t *testing.T, s, base string, want api.URL) {
	t.Helper()
	u, e := ask(t, s, mustParse(t, base))
	if e != nil || !record.Same(u, want) {
		t.Errorf("Parse(%q) by %q: %s, %v, want %s", short(s), base, shown(u), e, shown(want))
		return
	}
	wantTwice(t, s, u)
}

// wantText asks Parse for a URL by its text; what its fields are, the machine tells.
func wantText(t *testing.T, s, base, want string) {
	t.Helper()
	u, e := ask(t, s, mustParse(t, base))
	if text := record.Text(u, false); e != nil || text != want {
		t.Errorf("Parse(%q) by %q: %q, %v, want %q", short(s), base, short(text), e, short(want))
		return
	}
	check(t, s, mustParse(t, base))
}

// wantNumber holds an error against its number, and what came with it against the zero value.
func wantNumber(t *testing.T, name string, u api.URL, e error, want api.Errno) {
	t.Helper()
	if e == nil || fail.Code(e) != want || len(fail.Calls(e)) == 0 || !reflect.DeepEqual(u, api.URL{}) {
		t.Errorf("%s: %s, %v, want an error that wraps %v", name, shown(u), e, want)
		return
	}
	for _, number := range errnos {
		if errors.Is(e, number) != (number == want) {
			t.Errorf("%s: %v, and %v", name, e, number)
		}
	}
}

// wantError asks Parse for an error.
func wantError(t *testing.T, s, base string, want api.Errno) {
	t.Helper()
	by := mustParse(t, base)
	u, e := ask(t, s, by)
	wantNumber(t, "Parse("+short(s)+") by "+base, u, e, want)
	check(t, s, by)
}

// check holds Parse against the machine, and what it tells against what comes of its text.
func check(t *testing.T, s string, base *api.URL) {
	t.Helper()
	u, e := ask(t, s, base)
	want, number := parseBy(s, base)
	switch {
	case number != api.OK:
		wantNumber(t, "Parse("+short(s)+")", u, e, number)
	case e != nil || !record.Same(u, want):
		by := none
		if base != nil {
			by = record.Text(*base, false)
		}
		t.Errorf("Parse(%q) by %q: %s, %v, want %s", short(s), short(by), shown(u), e, shown(want))
	default:
		wantTwice(t, s, u)
	}
}

// wantTrim asks Trim for code points.
func wantTrim(t *testing.T, s string, want ...rune) {
	t.Helper()
	if l := Trim(s); !slices.Equal(l, want) {
		t.Errorf("Trim(%q): %q, want %q", s, l, want)
	}
}

// P13.1: what counts as a blank at the begin and at the end, and what doesn't count anywhere.
func TestTrimOfEachSign(t *testing.T) {
	for c := range rune(0x200) {
		sign := string(c)
		ahead, amid, behind := []rune{c, 'a'}, []rune{'a', c, 'b'}, []rune{'a', c}
		all := []rune{c}
		switch {
		case c == 9 || c == 10 || c == 13:
			ahead, amid, behind, all = []rune{'a'}, []rune{'a', 'b'}, []rune{'a'}, nil
		case c <= 32:
			ahead, behind, all = []rune{'a'}, []rune{'a'}, nil
		}
		wantTrim(t, sign, all...)
		wantTrim(t, sign+"a", ahead...)
		wantTrim(t, "a"+sign+"b", amid...)
		wantTrim(t, "a"+sign, behind...)
		wantTrim(t, " \t"+sign+"a", ahead...)
		wantTrim(t, "a"+sign+"\x00\n ", behind...)
	}
}

// P13.1: several of them.
func TestTrimOfSeveral(t *testing.T) {
	wantTrim(t, "")
	wantTrim(t, " ")
	wantTrim(t, " \x00\x1f\t\n\r ")
	wantTrim(t, "\t\n\r")
	wantTrim(t, "\x01 a\r\nb\t \x1f", 'a', 'b')
	wantTrim(t, "  a  b  ", 'a', ' ', ' ', 'b')
	wantTrim(t, "a \t b", 'a', ' ', ' ', 'b')
	wantTrim(t, "\ta\nb\rc\t\t\n", 'a', 'b', 'c')
	wantTrim(t, "a\x00b\x1fc", 'a', 0, 'b', 31, 'c')
	wantTrim(t, "\x7f \x7f", 127, ' ', 127)
	wantTrim(t, "\u00a0 \u00a0", 160, ' ', 160)
	wantTrim(t, "\u0085\u2003\u2028\ufeff\u3000", 0x85, 0x2003, 0x2028, 0xFEFF, 0x3000)
	wantTrim(t, " \U0010FFFF\t", 0x10FFFF)
}

// P13.1: bytes that are not UTF-8 are told before anything is left out, so what is left out joins no bytes.
func TestTrimOfBytesThatAreNotUTF8(t *testing.T) {
	wantTrim(t, "\xff", 0xFFFD)
	wantTrim(t, " \xff ", 0xFFFD)
	wantTrim(t, "\xe2\x82 \xe2\x82", 0xFFFD, ' ', 0xFFFD)
	wantTrim(t, "\xe2\x82A", 0xFFFD, 'A')
	wantTrim(t, "\xc3\t\xa9", 0xFFFD, 0xFFFD)
	wantTrim(t, "\xe2\n\x82\r\xac", 0xFFFD, 0xFFFD, 0xFFFD)
	wantTrim(t, "\xc0\xa0a", 0xFFFD, 0xFFFD, 'a')
	wantTrim(t, "\xed\xa0\x80", 0xFFFD, 0xFFFD, 0xFFFD)
	wantTrim(t, "\x80\t\x80", 0xFFFD, 0xFFFD)
}

// P13.1: Trim by the document's words, of texts by chance.
func TestTrimByChance(t *testing.T) {
	chance := rand.New(rand.NewSource(131))
	parts := []string{" ", "\t", "\n", "\r", "\x00", "\x1f", "\x20", "\x21", "\x7f", "a", "é", "\u00a0", "\xff", "\xc3", "\xa9", "\u2028", "\U0001F600"}
	for range 20000 {
		s := ""
		for range chance.Intn(9) {
			s += parts[chance.Intn(len(parts))]
		}
		first := Trim(s)
		if want := trimBy(s); !slices.Equal(first, want) {
			t.Fatalf("Trim(%q): %q, want %q", s, first, want)
		}
		kept := slices.Clone(first)
		second := Trim(s)
		for at := range second {
			second[at] = 'w'
		}
		if !slices.Equal(first, kept) {
			t.Fatalf("Trim(%q): what was told first shares memory with what was told next", s)
		}
	}
}

// P13.1: what Trim leaves out doesn't count in a URL, either.
func TestTextsAreTrimmed(t *testing.T) {
	wantText(t, " \x00http://a/b\x1f ", none, "http://a/b")
	wantText(t, "\thttp://a/b\r\n", none, "http://a/b")
	wantText(t, "ht\ntp:\t/\r/a\n/\tb?\nq#\tf", none, "http://a/b?q#f")
	wantText(t, "x:\u00a0", none, "x:%C2%A0")
	wantText(t, "x:\x7f", none, "x:%7F")
	wantText(t, "\u00a0", "http://a/", "http://a/%C2%A0")
	wantText(t, " \t ", "http://a/b?q#f", "http://a/b?q")
	wantText(t, " b ", "http://a/", "http://a/b")
	wantText(t, "http://a/\xc3\t\xa9", none, "http://a/%EF%BF%BD%EF%BF%BD")
	wantText(t, "http://a/é?é#é", none, "http://a/%C3%A9?%C3%A9#%C3%A9")
	wantText(t, "http://a/\xff?\xff#\xff", none, "http://a/%EF%BF%BD?%EF%BF%BD#%EF%BF%BD")
	wantError(t, " ", none, api.ErrBase)
	wantError(t, "\u00a0http://a/", none, api.ErrBase)
}

// P13.1 and P13.3: where the query and the fragment begin and end.
func TestPartsOfAText(t *testing.T) {
	a := record.New("x")
	a.Host, a.Path = api.Host{Kind: api.Opaque, Name: "h"}, []string{"a"}
	for rest, want := range map[string][2]string{
		"": {"-", "-"}, "#": {"-", ""}, "?": {"", "-"}, "#f": {"-", "f"}, "?q": {"q", "-"},
		"?#": {"", ""}, "#?": {"-", "?"}, "?q#f": {"q", "f"}, "#f?q": {"-", "f?q"}, "?q#": {"q", ""}, "?#f": {"", "f"},
		"??": {"?", "-"}, "##": {"-", "#"}, "?a?b": {"a?b", "-"}, "#a#b": {"-", "a#b"}, "?a?b#c#d?e": {"a?b", "c#d?e"},
		"?#?": {"", "?"}, "#?#": {"-", "?#"}, "?a#b?c": {"a", "b?c"}, "?/../..": {"/../..", "-"}, "#/../..": {"-", "/../.."},
		"?a:b@c": {"a:b@c", "-"}, "#a:b@c": {"-", "a:b@c"},
	} {
		u := a
		if want[0] != "-" {
			u.HasQuery, u.Query = true, want[0]
		}
		if want[1] != "-" {
			u.HasFragment, u.Fragment = true, want[1]
		}
		wantFields(t, "x://h/a"+rest, none, u)
		wantFields(t, rest, "x://h/a", u)
		wantFields(t, "a"+rest, "x://h/b", u)
	}
}

// P13.1: a query and a fragment are no part of a scheme, an authority, or a path.
func TestPartsEndTheFront(t *testing.T) {
	wantText(t, "http://h?q", none, "http://h/?q")
	wantText(t, "http://h#f", none, "http://h/#f")
	wantText(t, "http://h:81?q@b/c", none, "http://h:81/?q@b/c")
	wantText(t, "http://h:81#f@b/c", none, "http://h:81/#f@b/c")
	wantText(t, "x://h?q", none, "x://h?q")
	wantText(t, "x://h#f", none, "x://h#f")
	wantText(t, "x://?q", none, "x://?q")
	wantText(t, "file:?q#f", none, "file:///?q#f")
	wantText(t, "file://h?q", none, "file://h/?q")
	wantText(t, "a?b:c", "http://h/", "http://h/a?b:c")
	wantText(t, "a#b:c", "http://h/", "http://h/a#b:c")
	wantText(t, "..?q/a", "http://h/a/b", "http://h/?q/a")
	wantText(t, ".#f", "http://h/a/b", "http://h/a/#f")
	wantError(t, "a?b:c", none, api.ErrBase)
	wantError(t, "?x:a", none, api.ErrBase)
	wantError(t, "#x:a", none, api.ErrBase)
	wantError(t, "http://?h", none, api.ErrHost)
	wantError(t, "http://#h", none, api.ErrHost)
	wantError(t, "http://u@?h", none, api.ErrHost)
}

// P13.1: the bounds of bytes, ahead of all that is else to be said of a text.
func TestTooLong(t *testing.T) {
	bases := []string{none, "http://h/a", "x:a", "file:///C:/", "x://h"}
	for _, base := range bases {
		by := mustParse(t, base)
		for _, ahead := range []string{"x:", "x://h/", "http://h/", "http://h/?", "http://h/#", "file:///", "\t x:", "x:/"} {
			for size := api.MaxInput - 1; size <= api.MaxInput+1; size++ {
				s := ahead + strings.Repeat("a", size-len(ahead))
				u, e := ask(t, s, by)
				if size > api.MaxInput {
					wantNumber(t, "Parse("+short(s)+")", u, e, api.ErrTooLong)
				} else if text := record.Text(u, false); e != nil || text != strings.TrimLeft(s, " \t") {
					t.Errorf("Parse(%q) of %d bytes: %q, %v", short(s), size, short(text), e)
				} else if by == nil {
					wantTwice(t, s, u)
				}
			}
		}
		for _, wrong := range []string{"", "http://", "http://h:x", "http://h h", "?q", "//", " ", "\xff", "é"} {
			s := wrong + strings.Repeat("b", api.MaxInput+1-len(wrong))
			u, e := ask(t, s, by)
			wantNumber(t, "Parse("+short(s)+")", u, e, api.ErrTooLong)
		}
		s := "x:a" + strings.Repeat(" ", api.MaxInput-2)
		u, e := ask(t, s, by)
		wantNumber(t, "a text that is short when it is trimmed", u, e, api.ErrTooLong)
		u, e = ask(t, s[:api.MaxInput], by)
		if e != nil || record.Text(u, false) != "x:a" {
			t.Errorf("a text that ends with as many blanks as may be: %s, %v", shown(u), e)
		}
	}
	for size := api.MaxInput - 1; size <= api.MaxInput+1; size++ {
		u, e := Parse(strings.Repeat("a", size), nil)
		want := api.ErrBase
		if size > api.MaxInput {
			want = api.ErrTooLong
		}
		wantNumber(t, "letters alone", u, e, want)
	}
	wantError(t, "", none, api.ErrBase)
	wantError(t, "", "x:a", api.ErrBase)
	wantText(t, "", "http://h/a/b", "http://h/a/b")
	wantText(t, "", "x:/a", "x:/a")
	wantText(t, "", "file:", "file:///")
	// bytes are counted, not code points
	u, e := Parse("x:"+strings.Repeat("é", api.MaxInput/2-1), nil)
	if e != nil || u.Path[0] != strings.Repeat("%C3%A9", api.MaxInput/2-1) {
		t.Errorf("as many bytes as may be: %q, %v", short(record.Text(u, false)), e)
	}
	u, e = Parse("x:"+strings.Repeat("é", api.MaxInput/2), nil)
	wantNumber(t, "two bytes too many", u, e, api.ErrTooLong)
	// a text that percent signs made longer than may be is no other than any that is too long
	u, e = Parse("x:/"+strings.Repeat("é", api.MaxInput/4), nil)
	if e != nil {
		t.Fatal(e)
	}
	u, e = Parse(record.Text(u, false), nil)
	wantNumber(t, "a URL's text that is too long", u, e, api.ErrTooLong)
}

// P13.1: no scheme, and no base.
func TestNoSchemeNoBase(t *testing.T) {
	for _, s := range []string{"", "a", "/", "//", "//h", "//h/a", "\\", "?", "#", "#f", "?q", "..", ":", ":a", "1:", "1a:b", "+a:b", "a b:c", "é:", "a/b:c", "a\\b:c", "[::1]", "//h:x", "//", "C|/a", "http", "http//h", "%61:b", "a_b:c", "\x7f:", "htt\u212a:"} {
		wantError(t, s, none, api.ErrBase)
	}
}

// P13.1: no scheme, by an Opaque base.
func TestNoSchemeByAnOpaqueBase(t *testing.T) {
	for base, bare := range map[string]string{"x:y": "x:y", "x:y?q": "x:y?q", "x:y#f": "x:y", "x:y?q#f": "x:y?q", "x:": "x:", "x:?": "x:?", "x:y z?#": "x:y z?", "x:y ?q#": "x:y%20?q", "mailto:a@b": "mailto:a@b"} {
		wantText(t, "#g", base, bare+"#g")
		wantText(t, "#", base, bare+"#")
		wantText(t, " #g ", base, bare+"#g")
		wantText(t, "#g?r", base, bare+"#g?r")
		wantText(t, "#g#h`", base, bare+"#g#h%60")
		for _, s := range []string{"", " ", "?", "?r", "?#", "?#g", "?r#g", "z", "z#g", "z?r#g", "/", "/#g", "//h", "//h#g", ".", "..#g", ":#g", "1:#g", "\\#g"} {
			wantError(t, s, base, api.ErrBase)
		}
		wantText(t, "w:z", base, "w:z")
		wantText(t, "x:z", base, "x:z")
		wantText(t, "x:", base, "x:")
		wantText(t, "x:#g", base, "x:#g")
		wantText(t, "x:/z", base, "x:/z")
		wantText(t, "http:h", base, "http://h/")
	}
	u, e := Parse("#g", mustParse(t, "x:y?q#f"))
	want := api.URL{Scheme: "x", Port: -1, Opaque: true, Path: []string{"y"}, HasQuery: true, Query: "q", HasFragment: true, Fragment: "g"}
	if e != nil || !record.Same(u, want) {
		t.Errorf("a fragment by an Opaque base: %s, %v", shown(u), e)
	}
}

// P13.1: how schemes are told.
func TestSchemes(t *testing.T) {
	wantText(t, "X:a", none, "x:a")
	wantText(t, "HtTp:h", none, "http://h/")
	wantText(t, "FILE:a", none, "file:///a")
	wantText(t, "x-1+.:a", none, "x-1+.:a")
	wantText(t, "x:y:z", none, "x:y:z")
	wantText(t, "http+x:a", none, "http+x:a")
	wantText(t, "httpx://h", none, "httpx://h")
	wantText(t, "HTTP:a", "http://h/b", "http://h/a")
	wantText(t, "C:/a", "file:///b", "c:/a")
	wantText(t, "1x:a", "http://h/", "http://h/1x:a")
	wantText(t, ":a", "http://h/", "http://h/:a")
	wantText(t, "a b:c", "http://h/", "http://h/a%20b:c")
	wantText(t, "/x:a", "http://h/", "http://h/x:a")
	wantText(t, "./x:a", "http://h/", "http://h/x:a")
	for _, name := range specials {
		wantText(t, strings.ToUpper(name)+"://h/a", none, name+"://h/a")
	}
}

// slashings are all texts of slashes of both kinds, up to five of them.
func slashings() []string {
	all := []string{""}
	for from := 0; len(all[from]) < 5; from++ {
		all = append(all, all[from]+"/", all[from]+"\\")
	}
	return all
}

// P13.1 and P13.2: each scheme, by each kind of base, with all slashes that may be ahead of a rest, and amid.
func TestSlashesOfEachScheme(t *testing.T) {
	bases := []string{none, "x:o", "x:/p/q", "x://h/p/q?b", "y://u:v@h:9/p/q?b"}
	for _, name := range specials {
		bases = append(bases, name+"://b/p/q?b#c", name+"://b")
	}
	bases = append(bases, "http://u:v@b:9/p/q", "file:///C:/p/q", "file:///p")
	for _, base := range bases {
		by := mustParse(t, base)
		for _, name := range append([]string{"", "x:", "y:", "z:"}, "ftp:", "file:", "http:", "https:", "ws:", "wss:") {
			for _, slashes := range slashings() {
				for _, rest := range []string{"", "a", "a/b\\c", "a\\..\\d", "C|/a", "u@a:1/b"} {
					check(t, name+slashes+rest, by)
				}
				check(t, name+"a"+slashes+"b", by)
				check(t, name+"/a"+slashes, by)
				check(t, name+"//a"+slashes+"b?q", by)
			}
		}
	}
}

// P13.1: a special scheme, behind which an authority is read, with as few or many slashes as there are.
func TestSpecialSchemesWithoutTheirBase(t *testing.T) {
	for _, base := range []string{none, "https://b/c?r", "x://b/c", "x:b", "file://b/c", "ftp://b"} {
		for _, slashes := range slashings() {
			wantText(t, "http:"+slashes+"h/a\\b", base, "http://h/a/b")
			wantText(t, "ws:"+slashes+"u@h:81", base, "ws://u@h:81/")
			wantError(t, "http:"+slashes, base, api.ErrHost)
			wantError(t, "wss:"+slashes+"?q", base, api.ErrHost)
		}
	}
	for _, name := range specials {
		if name == "file" {
			continue
		}
		wantText(t, name+":h", none, name+"://h/")
		wantText(t, name+":/h", none, name+"://h/")
		wantText(t, name+"://h", none, name+"://h/")
		wantText(t, name+":\\/\\h\\a", none, name+"://h/a")
		wantText(t, name+":a", name+"://h/b", name+"://h/a")
		wantText(t, name+"://a", name+"://h/b", name+"://a/")
		wantText(t, name+":a", "x://h/b", name+"://a/")
		wantText(t, name+":a", "file://h/b", name+"://a/")
	}
}

// P13.1: a special scheme by a base of that scheme.
func TestSpecialSchemesByTheirBase(t *testing.T) {
	base := "http://u:p@h:81/a/b?q#f"
	for rest, want := range map[string]string{
		"":            "http://u:p@h:81/a/b?q",
		"#g":          "http://u:p@h:81/a/b?q#g",
		"?r":          "http://u:p@h:81/a/b?r",
		"?":           "http://u:p@h:81/a/b?",
		"c":           "http://u:p@h:81/a/c",
		"c/../d":      "http://u:p@h:81/a/d",
		"..":          "http://u:p@h:81/",
		".":           "http://u:p@h:81/a/",
		"./c:d":       "http://u:p@h:81/a/c:d",
		"/":           "http://u:p@h:81/",
		"/c":          "http://u:p@h:81/c",
		"\\c":         "http://u:p@h:81/c",
		"/c\\d":       "http://u:p@h:81/c/d",
		"//c":         "http://c/",
		"///c":        "http://c/",
		"////c/d":     "http://c/d",
		"/\\c":        "http://c/",
		"\\/c":        "http://c/",
		"\\\\c":       "http://c/",
		"\\\\\\/c\\d": "http://c/d",
		"//v@c:82/d":  "http://v@c:82/d",
		"c//d":        "http://u:p@h:81/a/c//d",
	} {
		wantText(t, "http:"+rest, base, want)
		wantText(t, rest, base, want)
	}
	for _, rest := range []string{"//", "///", "\\\\", "/\\/", "//?q", "//@/a", "//:1"} {
		wantError(t, "http:"+rest, base, api.ErrHost)
		wantError(t, rest, base, api.ErrHost)
	}
}

// P13.1: a scheme that isn't special counts for its base nowhere, and knows one kind of slash.
func TestOtherSchemes(t *testing.T) {
	for _, base := range []string{none, "x://u:p@b:1/c/d?r#g", "x:/c", "x:c", "http://b/c", "file:///c"} {
		for s, want := range map[string]string{
			"x:": "x:", "x:a": "x:a", "x:a/../b": "x:a/../b", "x:\\a": "x:\\a", "x:\\\\a": "x:\\\\a", "x:..": "x:..", "x:?q": "x:?q", "x:#f": "x:#f",
			"x:/": "x:/", "x:/a": "x:/a", "x:/a/": "x:/a/", "x:/\\a": "x:/\\a", "x:/a\\b/../c": "x:/c", "x:/..": "x:/", "x:/../a": "x:/a", "x:/./a/%2E%2e": "x:/",
			"x:/.//a": "x:/.//a", "x:/..//a": "x:/.//a", "x:/a/..//": "x:/.//", "x:/./": "x:/", "x:/a:b@c": "x:/a:b@c",
			"x://": "x://", "x://a": "x://a", "x://a/": "x://a/", "x:///": "x:///", "x:///a": "x:///a", "x:////a": "x:////a", "x://///": "x://///", "x:///..": "x:///", "x://a/..": "x://a/", "x://A%41:1/b": "x://A%41:1/b",
			"x://?q": "x://?q", "x://#f": "x://#f", "x://a/C|/../..": "x://a/", "x:/C|": "x:/C|",
		} {
			wantText(t, s, base, want)
		}
		wantError(t, "x://\\a", base, api.ErrHost)
		wantError(t, "x://a\\b", base, api.ErrHost)
	}
	none := api.URL{Scheme: "x", Port: -1, Path: []string{"", "a"}}
	wantFields(t, "x:/.//a", "", none)
	none.Path = []string{""}
	wantFields(t, "x:/", "", none)
	none.Host, none.Path = api.Host{Kind: api.Empty}, nil
	wantFields(t, "x://", "", none)
	none.Host, none.Path = api.Host{Kind: api.Opaque, Name: "h"}, nil
	wantFields(t, "x://h", "", none)
	none.Path = []string{""}
	wantFields(t, "x://h/", "", none)
}

// P13.1: relative to a base, with a path of none, of one and of several segments.
func TestRelativePaths(t *testing.T) {
	for base, rests := range map[string]map[string]string{
		"x://h":           {"": "", "a": "/a", ".": "/", "..": "/", "a/..": "/", "/": "/", "/a": "/a", "?": "?", "#": "#", "../a": "/a", "./": "/"},
		"x://h/":          {"": "/", "a": "/a", ".": "/", "..": "/", "/": "/", "a/b": "/a/b", "?": "/?"},
		"x://h/a":         {"": "/a", "b": "/b", ".": "/", "..": "/", "b/": "/b/", "/": "/", "/b": "/b", "?q": "/a?q", "./b": "/b", "../b": "/b"},
		"x://h/a/b":       {"": "/a/b", "c": "/a/c", ".": "/a/", "..": "/", "../..": "/", "../c": "/c", "./c": "/a/c", "/": "/", "/c": "/c", "c/./d": "/a/c/d", "c/../d": "/a/d", "c/..": "/a/", "c/.": "/a/c/"},
		"x://h/a/b/":      {"": "/a/b/", "c": "/a/b/c", ".": "/a/b/", "..": "/a/", "../..": "/", "../../../c": "/c", "%2e%2E/c": "/a/c", "%2E": "/a/b/"},
		"x://h/a/b/c/d/e": {"f": "/a/b/c/d/f", "..": "/a/b/c/", "../../f": "/a/b/f", "../../../../../../f": "/f", ".": "/a/b/c/d/", "f//g": "/a/b/c/d/f//g", "f//..": "/a/b/c/d/f/", "f/..//": "/a/b/c/d//"},
	} {
		for rest, want := range rests {
			wantText(t, rest, base, "x://h"+want)
			special := want
			if special == "" || special[0] != '/' {
				special = "/" + want
			}
			wantText(t, rest, "http"+base[1:], "http://h"+special)
		}
	}
}

// P13.1: what of base a relative URL has: who, host and port; by an empty rest the path and the query, too; never the fragment.
func TestRelativeFields(t *testing.T) {
	base := "x://u:p@h:9/a/b?q#f"
	u := api.URL{Scheme: "x", User: "u", Pass: "p", Host: api.Host{Kind: api.Opaque, Name: "h"}, Port: 9, Path: []string{"a", "b"}, HasQuery: true, Query: "q"}
	wantFields(t, "", base, u)
	u.HasFragment, u.Fragment = true, "g"
	wantFields(t, "#g", base, u)
	u.Query = ""
	wantFields(t, "?#g", base, u)
	u.Query, u.HasFragment, u.Fragment = "r", false, ""
	wantFields(t, "?r", base, u)
	u.HasQuery, u.Query = false, ""
	u.Path = []string{"a", "c"}
	wantFields(t, "c", base, u)
	u.Path = []string{"c"}
	wantFields(t, "/c", base, u)
	u.Path = []string{""}
	wantFields(t, "/", base, u)
	wantFields(t, "..", base, u)
	u.Path = []string{"a", ""}
	wantFields(t, ".", base, u)
	u.Path = []string{"a", "\\c"}
	wantFields(t, "\\c", base, u)
	wantFields(t, "//", base, api.URL{Scheme: "x", Port: -1, Host: api.Host{Kind: api.Empty}})
	wantFields(t, "///a", base, api.URL{Scheme: "x", Port: -1, Host: api.Host{Kind: api.Empty}, Path: []string{"a"}})
	wantFields(t, "////a", base, api.URL{Scheme: "x", Port: -1, Host: api.Host{Kind: api.Empty}, Path: []string{"", "a"}})
	wantFields(t, "//k", base, api.URL{Scheme: "x", Port: -1, Host: api.Host{Kind: api.Opaque, Name: "k"}})
	wantFields(t, "//v:w@k:0/c?r", base, api.URL{Scheme: "x", User: "v", Pass: "w", Host: api.Host{Kind: api.Opaque, Name: "k"}, Port: 0, Path: []string{"c"}, HasQuery: true, Query: "r"})
	wantFields(t, "", "x://h/a?#", api.URL{Scheme: "x", Port: -1, Host: api.Host{Kind: api.Opaque, Name: "h"}, Path: []string{"a"}, HasQuery: true})
	wantFields(t, "..//b", "x:/a", api.URL{Scheme: "x", Port: -1, Path: []string{"", "b"}})
	wantFields(t, "//b", "x:/a", api.URL{Scheme: "x", Port: -1, Host: api.Host{Kind: api.Opaque, Name: "b"}})
	wantFields(t, "/b", "x:/a/c?q", api.URL{Scheme: "x", Port: -1, Path: []string{"b"}})
	wantFields(t, "", "x:/a/c?q", api.URL{Scheme: "x", Port: -1, Path: []string{"a", "c"}, HasQuery: true, Query: "q"})
	wantFields(t, "//k", "https://u:p@h:9/a?q", api.URL{Scheme: "https", Port: -1, Host: api.Host{Kind: api.Domain, Name: "k"}, Path: []string{""}})
	wantFields(t, "/k", "https://u:p@[::1]:9/a?q", api.URL{Scheme: "https", User: "u", Pass: "p", Port: 9, Host: api.Host{Kind: api.V6, V6: [8]uint16{7: 1}}, Path: []string{"k"}})
}

// P13.1: segments are told by percent signs of their set, and dots among them are heard, last and amid.
func TestSegments(t *testing.T) {
	wantText(t, "http://h/a b\"<>^`{}|é%zz%2f", none, "http://h/a%20b%22%3C%3E%5E%60%7B%7D|%C3%A9%zz%2f")
	wantText(t, "x://h/a b\"<>^`{}|é'[]@:;=&$+,!~", none, "x://h/a%20b%22%3C%3E%5E%60%7B%7D|%C3%A9'[]@:;=&$+,!~")
	wantText(t, "x:/a\x00b\x1fc\x7f", none, "x:/a%00b%1Fc%7F")
	for _, dot := range []string{".", "%2e", "%2E"} {
		wantText(t, "http://h/a/b/"+dot, none, "http://h/a/b/")
		wantText(t, "http://h/a/"+dot+"/b", none, "http://h/a/b")
		wantText(t, "http://h/"+dot, none, "http://h/")
		wantText(t, "http://h/a/"+dot+"b", none, "http://h/a/"+dot+"b")
		for _, more := range []string{".", "%2e", "%2E"} {
			wantText(t, "http://h/a/b/"+dot+more, none, "http://h/a/")
			wantText(t, "http://h/a/"+dot+more+"/b", none, "http://h/b")
			wantText(t, "http://h/"+dot+more, none, "http://h/")
			wantText(t, "http://h/"+dot+more+"/"+dot+more+"/b", none, "http://h/b")
			wantText(t, "http://h/a/"+dot+more+".", none, "http://h/a/"+dot+more+".")
			wantText(t, "x:/a/b\\"+dot+more, none, "x:/a/b\\"+dot+more)
		}
	}
	wantText(t, "http://h/a/b/c/../../../d", none, "http://h/d")
	wantText(t, "http://h/a/b/c/d/../../e/f/../g", none, "http://h/a/b/e/g")
	wantText(t, "http://h//a//../b", none, "http://h//a/b")
	wantText(t, "http://h/C|/..", none, "http://h/")
	wantText(t, "http://h/C|", none, "http://h/C|")
}

// P13.1: who is told ahead of the last @.
func TestAuthorityWho(t *testing.T) {
	type who struct{ user, pass string }
	for text, want := range map[string]who{
		"":             {"", ""},
		"@":            {"", ""},
		":@":           {"", ""},
		"u@":           {"u", ""},
		"u:@":          {"u", ""},
		":p@":          {"", "p"},
		"u:p@":         {"u", "p"},
		"u:p:q@":       {"u", "p%3Aq"},
		"u::@":         {"u", "%3A"},
		"::@":          {"", "%3A"},
		"@@":           {"%40", ""},
		"u@v@":         {"u%40v", ""},
		"u:p@v:q@":     {"u", "p%40v%3Aq"},
		"u@v:p@":       {"u%40v", "p"},
		"@:@":          {"%40", ""},
		":@@":          {"", "%40"},
		"[u]:[p]@":     {"%5Bu%5D", "%5Bp%5D"},
		"[u:p@":        {"%5Bu", "p"},
		"a b\"<>`{}@":  {"a%20b%22%3C%3E%60%7B%7D", ""},
		":;=|^'%zz@":   {"", "%3B%3D%7C%5E'%zz"},
		"é:\xff@":      {"%C3%A9", "%EF%BF%BD"},
		"U:P@":         {"U", "P"},
		"u%40:p%3a@":   {"u%40", "p%3a"},
		"x:80@":        {"x", "80"},
		"u$&+,!~*():@": {"u$&+,!~*()", ""},
	} {
		u := api.URL{Scheme: "x", User: want.user, Pass: want.pass, Host: api.Host{Kind: api.Opaque, Name: "h"}, Port: 81}
		wantFields(t, "x://"+text+"h:81", none, u)
		wantFields(t, "//"+text+"h:81", "x:/a", u)
		u.Scheme, u.Host.Kind, u.Path = "http", api.Domain, []string{""}
		wantFields(t, "http:"+text+"h:81", none, u)
		wantFields(t, "http://"+text+"h:81/", "http://v:w@k:82/", u)
		u.Path = []string{"a@b:c"}
		wantFields(t, "http://"+text+"h:81/a@b:c", none, u)
	}
	for _, ahead := range []string{"@", "u@", "u:p@", ":@", "@@", "u@v@"} {
		for _, behind := range []string{"", "/", "/a@b", "?q", "#f", ":81", ":", ":x", ":81/a"} {
			wantError(t, "http://"+ahead+behind, none, api.ErrHost)
			wantError(t, "x://"+ahead+behind, none, api.ErrHost)
			wantError(t, "//"+ahead+behind, "http://h/", api.ErrHost)
			wantError(t, "//"+ahead+behind, "x://h/", api.ErrHost)
		}
		wantError(t, "http://"+ahead+"\\h", none, api.ErrHost)
	}
}

// P13.1: hosts, with a port and without.
func TestAuthorityHostAndPort(t *testing.T) {
	for s, want := range map[string]string{
		"http://h":              "http://h/",
		"http://h:":             "http://h/",
		"http://h:/":            "http://h/",
		"http://h:80":           "http://h/",
		"http://h:080/a":        "http://h/a",
		"http://h:81":           "http://h:81/",
		"http://h:0":            "http://h:0/",
		"http://h:00065535?q":   "http://h:65535/?q",
		"http://h:443":          "http://h:443/",
		"https://h:443":         "https://h/",
		"wss://h:0443":          "wss://h/",
		"ws://h:80":             "ws://h/",
		"ftp://h:21":            "ftp://h/",
		"ftp://h:80":            "ftp://h:80/",
		"x://h:80":              "x://h:80",
		"x://h:":                "x://h",
		"x://h:0":               "x://h:0",
		"x://h:/a":              "x://h/a",
		"http://[::1]":          "http://[::1]/",
		"http://[::1]:":         "http://[::1]/",
		"http://[::1]:80":       "http://[::1]/",
		"http://[0:0::1]:81/a":  "http://[::1]:81/a",
		"x://[::1]:80":          "x://[::1]:80",
		"x://[::1]":             "x://[::1]",
		"http://u:p@[::1]:81":   "http://u:p@[::1]:81/",
		"http://u:[p@[::1]:81":  "http://u:%5Bp@[::1]:81/",
		"http://[u]:p@h:81":     "http://%5Bu%5D:p@h:81/",
		"http://[@h:81":         "http://%5B@h:81/",
		"http://0x7f.1:81":      "http://127.0.0.1:81/",
		"x://0x7f.1:81":         "x://0x7f.1:81",
		"http://B\u00dc.x:81":   "http://xn--b-eha.x:81/",
		"http://%41%2Eb":        "http://a.b/",
		"x://\u00dc%41'\"`{}~$": "x://%C3%9C%41'\"`{}~$",
		"http://localhost":      "http://localhost/",
		"http://C:81":           "http://c:81/",
	} {
		wantText(t, s, none, want)
	}
	for _, ahead := range []string{"http://", "ws:", "x://", "http://u:p@", "x://u@"} {
		for _, s := range []string{":", ":80", ":x", ":/a", "[", "[::1", "[::1:80", "]", "a]", "]:80", "a]:80", "a[", "a[:80", "[]", "[]:80", "[a]", "[::1]a", "[::1]a:80", "[[::1]]", "[::1]]:80", "[:]:[:]", "a b", "a<b:80", "a^b", "a|b", "[::1]:80]", "[::1][:80"} {
			number := api.ErrHost
			if s == "[::1]:80]" {
				number = api.ErrPort
			}
			wantError(t, ahead+s, none, number)
		}
		for _, port := range []string{"x", "65536", "99999999999999999999", "8x", "x8", "-1", "+1", " 8", "8 0", "8:0", ":", ":8", "1e1", "0x50", "%38", "８", "]", "[8]"} {
			wantError(t, ahead+"h:"+port, none, api.ErrPort)
			wantError(t, ahead+"[::1]:"+port+"/a", none, api.ErrPort)
		}
		// the host's error is ahead of the port's
		wantError(t, ahead+"a b:x", none, api.ErrHost)
		wantError(t, ahead+"[1]:x", none, api.ErrHost)
		wantError(t, ahead+":65536", none, api.ErrHost)
	}
	wantError(t, "http://a%20b", none, api.ErrHost)
	wantError(t, "http://1.2.3.256", none, api.ErrHost)
	wantError(t, "http://1.2.3.08", none, api.ErrHost)
	wantError(t, "http://xn--abc-", none, api.ErrHost)
	wantError(t, "http://\u00ad", none, api.ErrHost)
	wantError(t, "http://%C2%AD:80/", none, api.ErrHost)
	wantText(t, "x://a%20b", none, "x://a%20b")
	wantText(t, "x://1.2.3.256", none, "x://1.2.3.256")
}

// P13.1: an empty host, of a special scheme and of one that isn't, with and without a colon.
func TestAuthorityWithoutAHost(t *testing.T) {
	empty := api.URL{Scheme: "x", Host: api.Host{Kind: api.Empty}, Port: -1}
	wantFields(t, "x://", none, empty)
	wantFields(t, "//", "x://h/", empty)
	empty.Path = []string{""}
	wantFields(t, "x:///", none, empty)
	wantFields(t, "///", "x:/a", empty)
	empty.Path, empty.HasQuery = nil, true
	wantFields(t, "x://?", none, empty)
	for _, s := range []string{"x://:", "x://:80", "x://:/a", "x://:x", "x://@", "x://@:80", "http://", "http://:", "http://:80", "http:", "http:/", "http:\\", "http:/?q", "ftp:#f", "ws://:x"} {
		wantError(t, s, none, api.ErrHost)
	}
	for _, s := range []string{"//:", "//:80/a", "//@", "//u@"} {
		wantError(t, s, "x://h/", api.ErrHost)
		wantError(t, s, "http://h/", api.ErrHost)
	}
}

// fileOf is a URL of a file, by a domain (the empty one, without one) and a path.
func fileOf(name string, path ...string) api.URL {
	u := api.URL{Scheme: "file", Host: api.Host{Kind: api.Empty}, Port: -1, Path: path}
	if name != "" {
		u.Host = api.Host{Kind: api.Domain, Name: name}
	}
	return u
}

// P13.2: behind two slashes base doesn't count.
func TestFileWithTwoSlashes(t *testing.T) {
	for rest, want := range map[string]api.URL{
		"//":                      fileOf("", ""),
		"///":                     fileOf("", ""),
		"////":                    fileOf("", "", ""),
		"///a":                    fileOf("", "a"),
		"////a":                   fileOf("", "", "a"),
		"//h":                     fileOf("h", ""),
		"//h/":                    fileOf("h", ""),
		"//H/a/../b":              fileOf("h", "b"),
		"\\\\h\\a":                fileOf("h", "a"),
		"/\\h\\a/b":               fileOf("h", "a", "b"),
		"\\/\\a":                  fileOf("", "a"),
		"//localhost":             fileOf("", ""),
		"//localhost/a":           fileOf("", "a"),
		"//LOCALhost//a":          fileOf("", "", "a"),
		"//%6cocal\u00adhost/a":   fileOf("", "a"),
		"//localhost./a":          fileOf("localhost.", "a"),
		"//localhost.x/a":         fileOf("localhost.x", "a"),
		"//C:":                    fileOf("", "C:"),
		"//C:/":                   fileOf("", "C:", ""),
		"//C:/a":                  fileOf("", "C:", "a"),
		"//C|":                    fileOf("", "C:"),
		"//c|\\a":                 fileOf("", "c:", "a"),
		"//C|/../a":               fileOf("", "C:", "a"),
		"//C:/..":                 fileOf("", "C:", ""),
		"///C:":                   fileOf("", "C:"),
		"///C|/a":                 fileOf("", "C:", "a"),
		"///C|a":                  fileOf("", "C|a"),
		"///C:/../..":             fileOf("", "C:", ""),
		"///a/../C|/..":           fileOf("", "C:", ""),
		"////C|":                  fileOf("", "", "C|"),
		"///a/C|":                 fileOf("", "a", "C|"),
		"///a/C:/..":              fileOf("", "a", ""),
		"///a/C:/../b":            fileOf("", "a", "b"),
		"///a/C:/../..":           fileOf("", ""),
		"///C:/D:/../a":           fileOf("", "C:", "a"),
		"///C:/D:/E:/../../../a":  fileOf("", "C:", "a"),
		"//h/C|":                  fileOf("h", "C:"),
		"//h/C:/..":               fileOf("h", "C:", ""),
		"//localhost/C|/a":        fileOf("", "C:", "a"),
		"//C":                     fileOf("c", ""),
		"//C/a":                   fileOf("c", "a"),
		"//\u00dc":                fileOf("xn--tda", ""),
		"//%43%2Ex":               fileOf("c.x", ""),
		"//./a":                   fileOf(".", "a"),
		"//h/../../a":             fileOf("h", "a"),
		"//h/a b\"<>^`{}|\u00e9'": fileOf("h", "a%20b%22%3C%3E%5E%60%7B%7D|%C3%A9'"),
	} {
		for _, base := range []string{none, "file:///b/c?q#f", "file://k/D:/b?q", "file:///D:/", "http://k/a", "x:a", "x:/a"} {
			wantFields(t, "file:"+rest, base, want)
		}
		for _, base := range []string{"file:///b/c?q#f", "file://k/D:/b?q", "file:///D:/"} {
			wantFields(t, rest, base, want)
		}
	}
	six := fileOf("", "a")
	six.Host = api.Host{Kind: api.V6, V6: [8]uint16{7: 1}}
	wantFields(t, "file://[::1]/a", none, six)
	six.Host = api.Host{Kind: api.V4, V4: 0x7F000001}
	wantFields(t, "file://0x7F.1/a", none, six)
	for _, rest := range []string{"//a b", "//a b/", "//h:80/", "//hh:", "//:80", "//u@h/a", "//u:p@h/a", "//@/a", "//[::1", "//[::1]:80/a", "//C:a", "//C|a/b", "//CC:/a", "//C%3A/a", "//C%7C", "//%43:/a", "//1:/a", "//%/", "//1.2.3.256/", "//\u00ad/"} {
		wantError(t, "file:"+rest, none, api.ErrHost)
		wantError(t, "file:"+rest, "file:///C:/a", api.ErrHost)
		wantError(t, rest, "file:///C:/a", api.ErrHost)
		wantError(t, rest, "file://k/a", api.ErrHost)
	}
}

// P13.2: behind one slash base's host counts, and its drive, if the rest has none.
func TestFileWithOneSlash(t *testing.T) {
	for rest, want := range map[string][]string{
		"":        {""},
		"a":       {"a"},
		"a\\b":    {"a", "b"},
		"..":      {""},
		".":       {""},
		"../a":    {"a"},
		"C:":      {"C:"},
		"C|":      {"C:"},
		"C|/a":    {"C:", "a"},
		"C:\\a":   {"C:", "a"},
		"C|/..":   {"C:", ""},
		"./C|":    {"C:"},
		"a/../C|": {"C:"},
		"C|a":     {"C|a"},
		"C":       {"C"},
		"a/C|":    {"a", "C|"},
		"1:":      {"1:"},
		"1|/a":    {"1|", "a"},
	} {
		drive := want
		if !strings.HasPrefix(rest, "C|") && !strings.HasPrefix(rest, "C:") || rest == "C|a" {
			drive = append([]string{"D:"}, want...)
		}
		if rest == "./C|" || rest == "a/../C|" {
			drive = []string{"D:", "C|"}
		}
		for _, slash := range []string{"/", "\\"} {
			s := slash + rest
			for _, base := range []string{none, "http://k/a", "x:/a", "x:a"} {
				wantFields(t, "file:"+s, base, fileOf("", want...))
			}
			for base, by := range map[string]api.URL{
				"file:":               fileOf("", want...),
				"file:///b/c?q#f":     fileOf("", want...),
				"file:////D:/b":       fileOf("", want...),
				"file:///b/D:":        fileOf("", want...),
				"file:///D:b":         fileOf("", want...),
				"file:///D%3A/b":      fileOf("", want...),
				"file:///DD:/b":       fileOf("", want...),
				"file://k/b?q":        fileOf("k", want...),
				"file:///D:":          fileOf("", drive...),
				"file:///D|":          fileOf("", drive...),
				"file:///D:/b/c?q#f":  fileOf("", drive...),
				"file://k/D:/":        fileOf("k", drive...),
				"file://k/D|/b/c?q#f": fileOf("k", drive...),
			} {
				wantFields(t, s, base, by)
				wantFields(t, "file:"+s, base, by)
			}
		}
	}
	wantText(t, "/C:?q#f", "file:///D:/a", "file:///C:?q#f")
	wantText(t, "/C|#f", "file:///D:/a", "file:///C:#f")
	wantText(t, "/?q", "file:///D:/a?r", "file:///D:/?q")
	wantText(t, "/", "file:///D:/a?r", "file:///D:/")
}

// P13.2: without a slash base's path goes on; but a drive of the rest's own stands alone.
func TestFileWithoutSlashes(t *testing.T) {
	for rest, want := range map[string]string{
		"": "", "a": "a", "a/b\\c": "a/b/c", ".": "", "..": "", "../a": "a", "C|": "C:", "C|/a/..": "C:/", "C|a": "C|a", "a:b": "a:b", "?q": "?q", "#f": "#f",
	} {
		for _, base := range []string{none, "http://k/a?q", "x:/a", "x:a", "ftp://k/a"} {
			wantText(t, "file:"+rest, base, "file:///"+want)
		}
	}
	wantText(t, "file:C:", none, "file:///C:")
	wantText(t, "file:C:/../a", none, "file:///C:/a")
	for base, rests := range map[string]map[string]string{
		"file:///b/c?q#f":   {"": "/b/c?q", "#g": "/b/c?q#g", "?r": "/b/c?r", "?": "/b/c?", "a": "/b/a", ".": "/b/", "..": "/", "../..": "/", "../../a": "/a", "C|": "/C:", "C|/a": "/C:/a", "C|?r": "/C:?r", "C|#g": "/C:#g", "C|\\..": "/C:/", "C|a": "/b/C|a", "a/C|": "/b/a/C|", "C|a/D:/../e": "/b/C|a/e", "./D:/..": "/b/", "./D:/../../e": "/e", "../C|": "/C:", "./C|": "/b/C|"},
		"file://k/b?q":      {"": "k/b?q", "a": "k/a", "..": "k/", "C|/a": "k/C:/a", "./C|/a": "k/C:/a", "?r": "k/b?r"},
		"file://k/D:/b":     {"": "k/D:/b", "a": "k/D:/a", "..": "k/D:/", "../..": "k/D:/", "../../a": "k/D:/a", "C|": "k/C:", "C|/../a": "k/C:/a"},
		"file:///D:":        {"": "/D:", "a": "/D:/a", ".": "/D:/", "..": "/D:/", "C|": "/C:", "../C|": "/D:/C|", "C|a": "/D:/C|a"},
		"file:///D|/":       {"": "/D:/", "a": "/D:/a", "..": "/D:/", "../../../a": "/D:/a"},
		"file:///D:/b/c#f":  {"": "/D:/b/c", "a": "/D:/b/a", "..": "/D:/", "../a": "/D:/a", "../../a": "/D:/a", "C|/a": "/C:/a"},
		"file:":             {"": "/", "a": "/a", "..": "/", "C|": "/C:", "?q": "/?q"},
		"file:////b":        {"a": "//a", "..": "/", "../a": "/a", "../C|": "/C:"},
		"file://0x7F.1/b/c": {"a": "127.0.0.1/b/a", "": "127.0.0.1/b/c"},
	} {
		for rest, want := range rests {
			wantText(t, rest, base, "file://"+want)
			wantText(t, "file:"+rest, base, "file://"+want)
		}
	}
	wantText(t, "file:C:/a", "file:///D:/b", "file:///C:/a")
	wantText(t, "file:C:", "file://k/D:/b?q", "file://k/C:")
	wantText(t, "file:C:a", "file:///D:/b/c", "file:///D:/b/C:a")
	wantFields(t, "", "file://k/b/c?q#f", api.URL{Scheme: "file", Host: api.Host{Kind: api.Domain, Name: "k"}, Port: -1, Path: []string{"b", "c"}, HasQuery: true, Query: "q"})
	wantFields(t, "a", "file://k/b/c?q#f", fileOf("k", "b", "a"))
	wantFields(t, "C|", "file://k/b/c?q#f", fileOf("k", "C:"))
}

// P13.1: a path that is one text; a blank at its end stays one only where nothing is behind it, and then it is trimmed.
func TestOpaquePaths(t *testing.T) {
	for s, want := range map[string]string{
		"x:": "", "x:a": "a", "x: a": " a", "x: a b ": " a b", "x:a  ": "a", "x:a\t ": "a", "x:a\nb": "ab",
		"x:a?": "a", "x:a #": "a%20", "x:a ?": "a%20", "x:a  ?q": "a %20", "x:a   #f": "a  %20", "x: ?q": "%20", "x: #": "%20", "x:  #f": " %20", "x:a b#f": "a b", "x:a b ?q#f": "a b%20", "x: \t ?q": " %20", "x:a \n#": "a%20",
		"x:a% ?q": "a%%20", "x:a%20?q": "a%20", "x:a%20 ?q": "a%20%20", "x:a\u00a0?q": "a%C2%A0", "x:a\x00?q": "a%00", "x:a\x1f#": "a%1F", "x:a\u2003#": "a%E2%80%83",
		"x:\"<>`{}^|'[]@:;\\/a": "\"<>`{}^|'[]@:;\\/a", "x:é\x7f\x1fa": "%C3%A9%7F%1Fa", "x:\xff": "%EF%BF%BD", "x:../a/./b": "../a/./b", "x:%zz%41": "%zz%41", "x:a//b": "a//b", "x:\\\\h": "\\\\h", "x:.//a": ".//a",
		"x:?q": "", "x:#f": "", "x:?": "", "x:#": "",
	} {
		for _, base := range []string{none, "x:b", "x:/b", "x://h/b", "http://h/", "file:///C:/"} {
			u, e := ask(t, s, mustParse(t, base))
			if e != nil || !u.Opaque || !slices.Equal(u.Path, []string{want}) || u.Host.Kind != api.NoHost || u.Port != api.NoPort {
				t.Errorf("Parse(%q) by %q: %s, %v, want the path %q", s, base, shown(u), e, want)
				continue
			}
			wantTwice(t, s, u)
			check(t, s, mustParse(t, base))
		}
	}
}

// wantTold asks for a field, with each sign amid, but those that end it: those of its set are told by percent signs, as are those below 33 and above 126.
func wantTold(t *testing.T, ahead, behind, set, ends string, field func(u api.URL) string) {
	t.Helper()
	for c := range rune(0x100) {
		sign := string(c)
		if c == 9 || c == 10 || c == 13 || strings.ContainsRune(ends, c) {
			continue
		}
		want := "a" + sign + "b"
		if c < 33 || c > 126 || strings.ContainsRune(set, c) {
			want = "a" + percent(sign) + "b"
		}
		s := ahead + "a" + sign + "b" + behind
		u, e := Parse(s, nil)
		if told := field(u); e != nil || told != want {
			t.Errorf("Parse(%q): %q, %v, want %q", s, told, e, want)
			continue
		}
		wantTwice(t, s, u)
	}
}

// percent are all bytes of a text, told by percent signs.
func percent(s string) string {
	text := ""
	for at := range len(s) {
		text += "%" + string("0123456789ABCDEF"[s[at]>>4]) + string("0123456789ABCDEF"[s[at]&15])
	}
	return text
}

// P13.1 and P13.3: each part is told by its own set; a query by another one, if the scheme is special.
func TestSetsOfTheParts(t *testing.T) {
	query := func(u api.URL) string { return u.Query }
	fragment := func(u api.URL) string { return u.Fragment }
	path := func(u api.URL) string { return strings.TrimPrefix(record.Path(u), "/") }
	for _, name := range specials {
		wantTold(t, name+"://h?", "", "\"<>'", "#", query)
		wantTold(t, name+"://h#", "", "\"<>`", "", fragment)
		wantTold(t, name+"://h/", "", "\"<>^`{}", "/\\?#", path)
	}
	for _, ahead := range []string{"x://h", "x:/a", "x:a", "httpx:"} {
		wantTold(t, ahead+"?", "", "\"<>", "#", query)
		wantTold(t, ahead+"#", "", "\"<>`", "", fragment)
	}
	wantTold(t, "x:/", "", "\"<>^`{}", "/?#", path)
	wantTold(t, "x://h/", "", "\"<>^`{}", "/?#", path)
	wantTold(t, "x://", "@h", "\"<>^`{};=@[\\]|", "/:?#", func(u api.URL) string { return u.User })
	wantTold(t, "x://u:", "@h", "\"<>^`{}:;=@[\\]|", "/?#", func(u api.URL) string { return u.Pass })
	wantTold(t, "ws://u:", "@h", "\"<>^`{}:;=@[]|", "/\\?#", func(u api.URL) string { return u.Pass })
	wantText(t, "?'", "http://h/?r", "http://h/?%27")
	wantText(t, "?'", "x://h/?r", "x://h/?'")
	wantText(t, "", "http://h/?'", "http://h/?%27")
	wantText(t, "#'`", "http://h/?'#g", "http://h/?%27#'%60")
	wantText(t, "?a b\"<>`{}|^", "x:/", "x:/?a%20b%22%3C%3E`{}|^")
}

// P13.3: set and empty, set and not, the rest empty and not.
func TestQueryAndFragmentOfBase(t *testing.T) {
	for _, base := range []string{"http://h/a", "x://h/a", "x:/a", "file:///a", "file://h/a"} {
		for _, query := range []string{"", "?", "?q"} {
			for _, fragment := range []string{"", "#", "#f"} {
				by := base + query + fragment
				up := base[:len(base)-1]
				wantText(t, "", by, base+query)
				wantText(t, "#", by, base+query+"#")
				wantText(t, "#g", by, base+query+"#g")
				wantText(t, "?", by, base+"?")
				wantText(t, "?r#g", by, base+"?r#g")
				wantText(t, "b", by, up+"b")
				wantText(t, ".", by, up)
				wantText(t, "b#g", by, up+"b#g")
				wantText(t, "b?", by, up+"b?")
				wantText(t, "/", by, up)
				wantText(t, "/?#", by, up+"?#")
				name, _, _ := strings.Cut(base, ":")
				if scheme.Special(name) {
					wantText(t, name+":", by, base+query)
					wantText(t, name+":#g", by, base+query+"#g")
					wantText(t, name+":?r", by, base+"?r")
				} else {
					wantText(t, name+":", by, "x:")
					wantText(t, name+":#g", by, "x:#g")
				}
			}
		}
	}
}

// P13.4: the base's error is ahead of the text's, and without has the base is no matter.
func TestBoth(t *testing.T) {
	long := strings.Repeat("a", api.MaxInput+1)
	bases := map[string]api.Errno{"": api.ErrBase, "a": api.ErrBase, "//h/": api.ErrBase, "http://": api.ErrHost, "http://h:x": api.ErrPort, long: api.ErrTooLong, "http://h/a?q#f": api.OK, "x:a": api.OK, " x:/a ": api.OK, "file://k/C|/a": api.OK}
	texts := []string{"", "b", "#g", "x:b", "http://", "http://h:x", "//h:x", "//", "http:c", long, " ../d ", "file:/e"}
	for base, number := range bases {
		for _, s := range texts {
			u, e := Both(s, base, false)
			want, without := Parse(s, nil)
			if fail.Code(e) != fail.Code(without) || !record.Same(u, want) {
				t.Errorf("Both(%q, %q, false): %s, %v, want %s, %v", short(s), short(base), shown(u), e, shown(want), without)
			}
			name := "Both(" + short(s) + ", " + short(base) + ", true)"
			u, e = Both(s, base, true)
			if number != api.OK {
				wantNumber(t, name, u, e, number)
				continue
			}
			want, by := Parse(s, mustParse(t, base))
			if fail.Code(e) != fail.Code(by) || !record.Same(u, want) {
				t.Errorf("%s: %s, %v, want %s, %v", name, shown(u), e, shown(want), by)
			}
			if by != nil {
				wantNumber(t, name, u, e, fail.Code(by))
			} else {
				wantTwice(t, s, u)
			}
		}
	}
	for _, c := range []struct {
		s, base, want string
		has           bool
		number        api.Errno
	}{
		{"../b", "http://h/a/c", "http://h/b", true, api.OK},
		{"b", "", "", true, api.ErrBase},
		{"b", "", "", false, api.ErrBase},
		{"x:b", "", "", true, api.ErrBase},
		{"x:b", "", "x:b", false, api.OK},
		{"x:b", "http://", "x:b", false, api.OK},
		{"x:b", "http://", "", true, api.ErrHost},
		{"http://h:x", "http://", "", true, api.ErrHost},
		{"http://", "http://h:x", "", true, api.ErrPort},
		{"http://", "http://h", "", true, api.ErrHost},
		{long, "//h", "", true, api.ErrBase},
		{"b", long, "", true, api.ErrTooLong},
		{"b", long, "", false, api.ErrBase},
		{"http:b", "http://h/a/", "http://b/", false, api.OK},
		{"http:b", "http://h/a/", "http://h/a/b", true, api.OK},
	} {
		u, e := Both(c.s, c.base, c.has)
		if c.number != api.OK {
			wantNumber(t, "Both("+short(c.s)+", "+short(c.base)+")", u, e, c.number)
		} else if text := record.Text(u, false); e != nil || text != c.want {
			t.Errorf("Both(%q, %q, %v): %q, %v, want %q", c.s, c.base, c.has, text, e, c.want)
		}
	}
}

// basesOfEachKind are bases to try texts by.
func basesOfEachKind(t *testing.T) []*api.URL {
	all := []*api.URL{nil}
	for _, base := range []string{"x:o", "x:o?q#f", "x:/", "x:/p/q?b#c", "x:/.//p", "x://", "x://h", "x:///p", "x://u:v@h:9/p/q/r", "http://b/", "http://u:v@b:9/p/q?b#c", "wss://[::1]/p", "file:///", "file:///p/q?b#c", "file:///C:/p", "file:///C:", "file://k/D:/", "file://k/p?b", "file:////p"} {
		all = append(all, mustParse(t, base))
	}
	return all
}

// P13.1 to P13.5: all short texts of the signs that count, behind several begins, by bases of each kind.
func TestAllShortTexts(t *testing.T) {
	bases := basesOfEachKind(t)
	signs := []string{"/", "\\", ":", "@", "?", "#", ".", "C", "|", " ", "[", "]", "8"}
	texts := []string{""}
	for from := 0; from < len(texts) && len(texts[from]) < 3; from++ {
		for _, sign := range signs {
			texts = append(texts, texts[from]+sign)
		}
	}
	for _, ahead := range []string{"", "x:", "http:", "file:", "x://", "http://h", "file://", "/", "//", "C|"} {
		for _, s := range texts {
			for _, base := range bases {
				check(t, ahead+s, base)
			}
		}
	}
}

// P13.1 to P13.5: texts by chance, by bases that came of such texts.
func TestTextsByChance(t *testing.T) {
	chance := rand.New(rand.NewSource(135))
	parts := []string{"http:", "https:", "file:", "x:", "ws:", "HTTP:", "//", "//", "/", "/", "\\", "\\\\", "a", "b", "h", ".", "..", "%2e", "%2E.", "C:", "C|", "c|", "@", ":", "80", ":443", ":65536", "[::1]", "[", "]", "?", "#", "?q", "#f", " ", "\t", "\n", "\x00", "\x7f", "é", "\xff", "ß", "\u00ad", "'", "`", "\"", "<", "^", "|", "%", "%41", "%C2%AD", "localhost", "0x7f.1", "1.2", "xn--", "xn--wca", "u:p@", "u@", "\u3002", "\U0001F600", "~", "{", "=", "+", "&"}
	text := func() string {
		s := ""
		for range chance.Intn(9) {
			s += parts[chance.Intn(len(parts))]
		}
		return s
	}
	bases := basesOfEachKind(t)
	kinds := len(bases)
	for range 150000 {
		s := text()
		base := bases[chance.Intn(len(bases))]
		check(t, s, base)
		if u, e := Parse(s, base); e == nil && len(record.Text(u, false)) < 200 {
			if len(bases) < 500 {
				bases = append(bases, &u)
			} else {
				bases[kinds+chance.Intn(500-kinds)] = &u
			}
		}
	}
}

// P13.5: of each kind of host, of who and port, path, query and fragment, all together.
func TestTextsThereAndBack(t *testing.T) {
	count := 0
	for _, ahead := range []string{"x:", "x:/", "x://", "x://h", "x://u:p@h:9", "x://[1::2]:0", "http://h", "http://u@h.x.:8", "https://0x7f.1", "ws://[::ffff:1.2.3.4]", "ftp://:p@xn--wca", "file:", "file:/", "file://", "file://h", "file://localhost", "file:///C|"} {
		for _, path := range []string{"", "/", "//", "///", "a", "/a", "/a/", "/a/b", "/a//b", "//a", "/.", "/..", "/./", "/.//", "/..//a", "/a/../..//b", "/C|", "/C|/..", "/a/../C|", "/ ", " ", "a ", "/a b ", "/%2e/%2E%2e//x", "/é|\\", "\\..\\a"} {
			for _, rest := range []string{"", "?", "#", "?#", "?q'", "?q#f`", "#f ? #", "? # "} {
				u, e := Parse(ahead+path+rest, nil)
				if e != nil {
					continue
				}
				count++
				wantTwice(t, ahead+path+rest, u)
				check(t, ahead+path+rest, nil)
			}
		}
	}
	if count < 2000 {
		t.Errorf("no more than %d texts are URLs", count)
	}
}

// P1, P13.1: texts as long as may be, of all that could take long.
func TestLongTexts(t *testing.T) {
	none, some := []*api.URL{nil}, []*api.URL{mustParse(t, "http://h/a/b"), mustParse(t, "file:///C:/a")}
	for _, part := range []string{"/", "\\", "/a", "/..", "/.", "/../", "/a/..", "@", ":", "[", "]", "?", "#", " ", "\t", "%2e", "/%2e%2E", "é", "\xff", "a.", "1.", "C|/", "u:p@", "xn--tda.", "ß", "://"} {
		for ahead, bases := range map[string][]*api.URL{"x:": none, "x:/": none, "x://": none, "http://": none, "http://h/": none, "file:///C:/": none, "http://u:": none, "http://[": none, "": some} {
			s := ahead + strings.Repeat(part, (api.MaxInput-len(ahead))/len(part))
			for _, base := range bases {
				u, e := Parse(s, base)
				if text := record.Text(u, false); e == nil && len(text) <= api.MaxInput {
					wantTwice(t, s, u)
				}
			}
		}
	}
}

// P13.1: long paths, and many dots by them.
func TestLongPaths(t *testing.T) {
	count := 20000
	for _, ahead := range []string{"http://h", "x://h", "x:", "file://h", "file://h/C|"} {
		u, e := Parse(ahead+strings.Repeat("/a", count), nil)
		segments, first := u.Path, 0
		if strings.HasSuffix(ahead, "C|") {
			segments, first = u.Path[1:], 1
		}
		if e != nil || len(segments) != count || slices.ContainsFunc(segments, func(s string) bool { return s != "a" }) {
			t.Fatalf("%s and %d segments: %d, %v", ahead, count, len(u.Path), e)
		}
		for _, ups := range []int{0, 1, 2, count - 3, count - 2, count - 1, count, count + 1} {
			left := first + max(count-1-ups, 0)
			shorter, e := Parse(strings.Repeat("../", ups)+"c", &u)
			if want := append(slices.Clone(u.Path[:left]), "c"); e != nil || !slices.Equal(shorter.Path, want) {
				t.Errorf("%s and %d segments, and %d times two dots: %d segments, %v", ahead, count, ups, len(shorter.Path), e)
			}
		}
	}
}

// The chapter's example, and those of the whole that are the parser's.
func TestExamples(t *testing.T) {
	wantText(t, "../b?q", "http://A/x/y#f", "http://a/b?q")
	u, e := Both("../b?q", "http://A/x/y#f", true)
	if text := record.Text(u, false); e != nil || text != "http://a/b?q" {
		t.Errorf("the example: %q, %v", text, e)
	}
	wantFields(t, "../b?q", "http://A/x/y#f", api.URL{Scheme: "http", Host: api.Host{Kind: api.Domain, Name: "a"}, Port: -1, Path: []string{"b"}, HasQuery: true, Query: "q"})
	wantText(t, "blob:https://a:444/x", none, "blob:https://a:444/x")
	wantText(t, "http://A/", none, "http://a/")
}
