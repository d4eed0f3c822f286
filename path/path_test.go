package path

import (
	"fmt"
	"math/rand"
	"slices"
	"strings"
	"testing"
)

const (
	letters = "abcdefghijklmnopqrstuvwxyzABCDEFGHIJKLMNOPQRSTUVWXYZ"
	ends    = "/\\?#"
	// behind is what lies in the memory behind a path's end.
	behind = "lies behind"
)

// one and two are all texts of one dot, and of two, by the document's list, one by one.
var (
	one = []string{".", "%2e", "%2E"}
	two = []string{"..", ".%2e", ".%2E", "%2e.", "%2E.", "%2e%2e", "%2e%2E", "%2E%2e", "%2E%2E"}
)

// schemes are the only one whose drives count, and others, some of which look like it.
var schemes = []string{"file", "", "http", "x", "FILE", "File", "fil", "files", "file:", " file"}

// plainOnes and others are segments: drives that have a colon, and what is none.
var (
	plainOnes = []string{"C:", "c:", "a:", "z:", "A:", "Z:"}
	others    = []string{"", "a", "...", "C", "C:x", "xC:", "1:", "@:", "::", "C;", "C::", "C|", "z|", "%2", "%2e%", "%252e", " ", "/", "\xff", "\u00e9:", "CD:"}
)

// isDrive is Drive, by the document's words.
func isDrive(s string) bool {
	return len(s) == 2 && strings.Contains(letters, s[:1]) && strings.Contains(":|", s[1:])
}

// starts is Starts, by the document's words.
func starts(s string) bool {
	if len(s) < 2 || !isDrive(s[:2]) {
		return false
	}
	return len(s) == 2 || strings.Contains(ends, s[2:3])
}

// shortenBy is Shorten, by the document's words.
func shortenBy(scheme string, l []string) []string {
	if scheme == "file" && len(l) == 1 && isDrive(l[0]) && l[0][1] == ':' {
		return []string{l[0]}
	}
	var kept []string
	for at := 0; at < len(l)-1; at++ {
		kept = append(kept, l[at])
	}
	return kept
}

// addBy is Add, by the document's words.
func addBy(scheme string, l []string, s string, last bool) []string {
	var all []string
	switch {
	case slices.Contains(two, s):
		all = shortenBy(scheme, l)
	case slices.Contains(one, s):
		all = append(all, l...)
	case scheme == "file" && len(l) == 0 && isDrive(s):
		return []string{s[:1] + ":"}
	default:
		return append(append(all, l...), s)
	}
	if last {
		all = append(all, "")
	}
	return all
}

// roomy is a path in a memory of which more lies behind its end, and all of that memory.
func roomy(l []string) (path, memory []string) {
	memory = append(slices.Clone(l), behind, behind, behind)
	return memory[:len(l)], memory
}

// wantList asks a call of a path: what it tells, that the path's memory stays, behind its end too, and that what is told shares none of it.
func wantList(t *testing.T, name string, l, want []string, call func(l []string) []string) {
	t.Helper()
	if got := call(slices.Clip(slices.Clone(l))); !slices.Equal(got, want) {
		t.Fatalf("%s: %q, want %q", name, got, want)
	}
	path, memory := roomy(l)
	was := slices.Clone(memory)
	got := call(path)
	if !slices.Equal(got, want) {
		t.Fatalf("%s, with room behind the path: %q, want %q", name, got, want)
	}
	if !slices.Equal(memory, was) {
		t.Fatalf("%s: the path's memory is %q, was %q", name, memory, was)
	}
	got = got[:cap(got)]
	for at := range got {
		got[at] = "written"
	}
	if !slices.Equal(memory, was) {
		t.Fatalf("%s: what is told shares the path's memory: %q, was %q", name, memory, was)
	}
}

// wantDots asks Dot and Dots of a text.
func wantDots(t *testing.T, s string, dot, dots bool) {
	t.Helper()
	if Dot(s) != dot || Dots(s) != dots {
		t.Errorf("%q: Dot %v, Dots %v, want %v, %v", s, Dot(s), Dots(s), dot, dots)
	}
}

// wantDrive asks Drive and Starts of a text.
func wantDrive(t *testing.T, s string, drive, starts bool) {
	t.Helper()
	if Drive(s) != drive || Starts(s) != starts {
		t.Errorf("%q: Drive %v, Starts %v, want %v, %v", s, Drive(s), Starts(s), drive, starts)
	}
}

// wantShorten asks Shorten of a path.
func wantShorten(t *testing.T, scheme string, l, want []string) {
	t.Helper()
	name := fmt.Sprintf("Shorten(%q, %q)", scheme, l)
	wantList(t, name, l, want, func(l []string) []string { return Shorten(scheme, l) })
}

// wantAdd asks Add of a path and a segment.
func wantAdd(t *testing.T, scheme string, l []string, s string, last bool, want []string) {
	t.Helper()
	name := fmt.Sprintf("Add(%q, %q, %q, %v)", scheme, l, s, last)
	wantList(t, name, l, want, func(l []string) []string { return Add(scheme, l, s, last) })
}

// wantAddEither asks Add of a segment for which it doesn't count whether it is the last one.
func wantAddEither(t *testing.T, scheme string, l []string, s string, want []string) {
	t.Helper()
	wantAdd(t, scheme, l, s, false, want)
	wantAdd(t, scheme, l, s, true, want)
}

// P11.1: each text of one dot, and of two.
func TestDotAndDotsOfTheirTexts(t *testing.T) {
	for _, s := range one {
		wantDots(t, s, true, false)
	}
	for _, s := range two {
		wantDots(t, s, false, true)
	}
}

// P11.1: each of these texts with any byte more at any place, with one byte less, or with another one in its stead.
func TestDotAndDotsOfNeighbours(t *testing.T) {
	check := func(s string) { wantDots(t, s, slices.Contains(one, s), slices.Contains(two, s)) }
	for _, s := range slices.Concat(one, two) {
		for at := range len(s) + 1 {
			for b := range 256 {
				check(s[:at] + string([]byte{byte(b)}) + s[at:])
				if at < len(s) {
					check(s[:at] + string([]byte{byte(b)}) + s[at+1:])
				}
			}
			if at < len(s) {
				check(s[:at] + s[at+1:])
			}
		}
	}
}

// P11.1: no bytes, three dots, and what looks like dots.
func TestDotAndDotsOfOthers(t *testing.T) {
	for _, s := range []string{"", "...", "....", "%2e%2e%2e", "..%2e", "%2e..", ".%2e.", "a", "%", "%2", "2e", "%2f", "%3e", "%252e", "%2%65", ". ", " .", " ..", ".\x00", "./", "/.", "..a", "a..", ".a.", "%2e/%2e", "\u2024", "\u2025", "\uff0e", "\u3002", "%2\uff45", "%2\u212f", "\xae", "\xff.", ".\xff", strings.Repeat(".", 70000), strings.Repeat("%2e", 70000)} {
		wantDots(t, s, false, false)
	}
	for b := range 256 {
		wantDots(t, string([]byte{byte(b)}), b == '.', false)
	}
}

// P11.1: all short texts of bytes that dots are made of.
func TestDotAndDotsOfShortTexts(t *testing.T) {
	const edges = ".%2eE5a"
	var all func(ahead string, more int)
	all = func(ahead string, more int) {
		wantDots(t, ahead, slices.Contains(one, ahead), slices.Contains(two, ahead))
		for at := 0; at < len(edges) && more > 0; at++ {
			all(ahead+edges[at:at+1], more-1)
		}
	}
	all("", 6)
}

// P11.1: no bytes, each single byte, and each two bytes: each letter with a colon, with the bar, and with each other byte, and each other byte with these.
func TestDriveAndStartsOfTwoBytes(t *testing.T) {
	wantDrive(t, "", false, false)
	count := 0
	for a := range 256 {
		wantDrive(t, string([]byte{byte(a)}), false, false)
		for b := range 256 {
			s := string([]byte{byte(a), byte(b)})
			wantDrive(t, s, isDrive(s), isDrive(s))
			if Drive(s) {
				count++
			}
		}
	}
	if count != 104 {
		t.Errorf("%d drives", count)
	}
	for _, b := range []byte{64, 91, 96, 123, '0', '9', 0, 0x80, 0xE1, 0xFF} {
		wantDrive(t, string([]byte{b, ':'}), false, false)
		wantDrive(t, string([]byte{b, '|'}), false, false)
	}
	for _, s := range []string{"a:", "z:", "A:", "Z:", "a|", "z|", "A|", "Z|", "C:", "c|"} {
		wantDrive(t, s, true, true)
	}
}

// P11.1: each byte behind each drive's letter, alone and with more behind it.
func TestStartsOfADriveAndMore(t *testing.T) {
	for at := range len(letters) {
		for _, sign := range []string{":", "|"} {
			drive := letters[at:at+1] + sign
			for b := range 256 {
				end := b == '/' || b == '\\' || b == '?' || b == '#'
				text := drive + string([]byte{byte(b)})
				wantDrive(t, text, false, end)
				wantDrive(t, text+"x", false, end)
				wantDrive(t, text+"/", false, end)
				wantDrive(t, text+text, false, end)
			}
		}
	}
	wantDrive(t, "C:/"+strings.Repeat("x", 70000), false, true)
	wantDrive(t, "C:"+strings.Repeat("x", 70000), false, false)
}

// P11.1: what looks like a drive's letter, and stands ahead of a sign that ends one.
func TestDriveAndStartsOfOthers(t *testing.T) {
	for _, s := range []string{"/C:", " C:", "C :", ":C", "|C", "C::", "C||", "C:|", "CC:", "1:/", "@:/", "[:/", "`:/", "{:/", "::/", ":/", "C/", "C;/", "C%7C", "C%7c/", "C%3A", "\u00e9:", "\u00e9:/", "\uff23:", "C\uff1a", "C\uff5c", "\u212a:", "\xc3:/", "C\xba/", "C:\u2215", "C:\uff0f", "C:\xaf", "\x00C:", "C:\x00", "C:x/", "C:&"} {
		wantDrive(t, s, false, false)
	}
	for _, a := range "aZ1@[`{:|/\x80" {
		for _, b := range ":|;/a" {
			for _, c := range "/\\?#:|a \x00" {
				s := string([]rune{a, b, c})
				wantDrive(t, s, false, starts(s))
			}
		}
	}
}

// P11.2: no segments.
func TestShortenOfNothing(t *testing.T) {
	for _, scheme := range schemes {
		wantShorten(t, scheme, nil, nil)
		wantShorten(t, scheme, []string{}, nil)
	}
}

// P11.2: one segment: a plain drive's letter stays, of file alone.
func TestShortenOfOne(t *testing.T) {
	for at := range len(letters) {
		drive := letters[at : at+1]
		wantShorten(t, "file", []string{drive + ":"}, []string{drive + ":"})
		wantShorten(t, "file", []string{drive + "|"}, nil)
	}
	for _, scheme := range schemes[1:] {
		for _, s := range slices.Concat(plainOnes, others, one, two) {
			wantShorten(t, scheme, []string{s}, nil)
		}
	}
	for _, s := range slices.Concat(others, one, two) {
		wantShorten(t, "file", []string{s}, nil)
	}
	for b := range 256 {
		if !strings.Contains(letters, string([]byte{byte(b)})) {
			wantShorten(t, "file", []string{string([]byte{byte(b), ':'})}, nil)
		}
		if b != ':' {
			wantShorten(t, "file", []string{string([]byte{'C', byte(b)})}, nil)
		}
	}
}

// P11.2: of two segments, and of more, the last one goes, whichever of them is a drive's letter.
func TestShortenOfSeveral(t *testing.T) {
	for _, scheme := range schemes {
		for _, drive := range []string{"C:", "C|", "z:", "z|"} {
			wantShorten(t, scheme, []string{drive, "x"}, []string{drive})
			wantShorten(t, scheme, []string{drive, ""}, []string{drive})
			wantShorten(t, scheme, []string{"x", drive}, []string{"x"})
			wantShorten(t, scheme, []string{"", drive}, []string{""})
			wantShorten(t, scheme, []string{drive, drive}, []string{drive})
			wantShorten(t, scheme, []string{drive, "x", "y"}, []string{drive, "x"})
			wantShorten(t, scheme, []string{"x", drive, "y"}, []string{"x", drive})
			wantShorten(t, scheme, []string{"x", "y", drive}, []string{"x", "y"})
		}
		wantShorten(t, scheme, []string{"", ""}, []string{""})
		wantShorten(t, scheme, []string{"a", "b", "c"}, []string{"a", "b"})
		wantShorten(t, scheme, slices.Repeat([]string{"a"}, 5000), slices.Repeat([]string{"a"}, 4999))
	}
}

// P11.3: one dot, in each of its texts: nothing, or, as the last one, an empty segment.
func TestAddOfOneDot(t *testing.T) {
	for _, scheme := range schemes {
		for _, s := range one {
			wantAdd(t, scheme, nil, s, false, nil)
			wantAdd(t, scheme, nil, s, true, []string{""})
			for _, l := range [][]string{{"a"}, {""}, {"C:"}, {"C|"}, {"a", "b"}, {"C:", "b"}, {"a", "C:"}, {"", "", ""}, {"a", "b", "c", "d"}} {
				wantAdd(t, scheme, l, s, false, l)
				wantAdd(t, scheme, l, s, true, append(slices.Clone(l), ""))
			}
		}
	}
}

// P11.3: two dots, in each of their texts: the last segment goes, and, as the last one, they are an empty segment behind the others.
func TestAddOfTwoDots(t *testing.T) {
	for _, scheme := range schemes {
		for _, s := range two {
			wantAdd(t, scheme, nil, s, false, nil)
			wantAdd(t, scheme, nil, s, true, []string{""})
			for _, l := range [][]string{{"a"}, {""}, {"C|"}, {"C:x"}, {"1:"}, {"a", "b"}, {"C:", "b"}, {"C|", "C:"}, {"a", "C:"}, {"", "", ""}, {"a", "b", "c", "d"}} {
				shorter := l[:len(l)-1]
				wantAdd(t, scheme, l, s, false, shorter)
				wantAdd(t, scheme, l, s, true, append(slices.Clone(shorter), ""))
			}
			if scheme != "file" {
				wantAdd(t, scheme, []string{"C:"}, s, false, nil)
				wantAdd(t, scheme, []string{"C:"}, s, true, []string{""})
			}
		}
	}
	for _, s := range two {
		for _, drive := range plainOnes {
			wantAdd(t, "file", []string{drive}, s, false, []string{drive})
			wantAdd(t, "file", []string{drive}, s, true, []string{drive, ""})
		}
	}
}

// P11.3: each drive's letter is one with a colon, of file, and ahead of all others; elsewhere it stays as it is.
func TestAddOfADrive(t *testing.T) {
	for at := range len(letters) {
		letter := letters[at : at+1]
		for _, sign := range []string{":", "|"} {
			drive := letter + sign
			wantAddEither(t, "file", nil, drive, []string{letter + ":"})
			wantAddEither(t, "file", []string{}, drive, []string{letter + ":"})
			for _, l := range [][]string{{"a"}, {""}, {"C:"}, {"C|"}, {"a", "b"}, {"C:", "a"}, {"", ""}} {
				wantAddEither(t, "file", l, drive, append(slices.Clone(l), drive))
			}
			for _, scheme := range schemes[1:] {
				wantAddEither(t, scheme, nil, drive, []string{drive})
				wantAddEither(t, scheme, []string{"a"}, drive, []string{"a", drive})
			}
		}
	}
	for b := range 256 {
		other := string([]byte{byte(b)})
		if !strings.Contains(letters, other) {
			wantAddEither(t, "file", nil, other+"|", []string{other + "|"})
		}
		if !strings.Contains(":|", other) {
			wantAdd(t, "file", nil, "C"+other, false, []string{"C" + other})
		}
	}
}

// P11.3: an empty segment, and others that are neither dots nor a drive's letter, stand behind the path as they are.
func TestAddOfOthers(t *testing.T) {
	for _, scheme := range schemes {
		for _, l := range [][]string{nil, {}, {""}, {"a"}, {"C:"}, {"C|"}, {"a", ""}, {"C:", "a", "b"}} {
			for _, s := range others {
				if !isDrive(s) {
					wantAddEither(t, scheme, l, s, append(slices.Clone(l), s))
				}
			}
			for _, s := range []string{"", "....", "%2e%2e%2e", "C|x", "/C|", "C%7C", "a/b", "?", "#", "\x00", "\xff\xfe", "\u00e9", strings.Repeat("ab", 40000)} {
				wantAddEither(t, scheme, l, s, append(slices.Clone(l), s))
			}
		}
	}
}

// P11.3, and rule R3: two calls of one path, with room behind it, or none, don't share what they added; nor do calls of what was told.
func TestAddTwiceToOnePath(t *testing.T) {
	for _, scheme := range schemes {
		for count := range 20 {
			path := make([]string, count, count+3)
			for range 12 {
				a, b := Add(scheme, path, "a", false), Add(scheme, path, "b", true)
				c, d := Add(scheme, path, ".", true), Add(scheme, path, "..", true)
				e, f := Add(scheme, Shorten(scheme, path), "e", false), Add(scheme, path, "..", false)
				shorter := shortenBy(scheme, path)
				for at, pair := range [][2][]string{{a, append(slices.Clone(path), "a")}, {b, append(slices.Clone(path), "b")}, {c, append(slices.Clone(path), "")}, {d, append(slices.Clone(shorter), "")}, {e, append(slices.Clone(shorter), "e")}, {f, shorter}} {
					if !slices.Equal(pair[0], pair[1]) {
						t.Fatalf("%s, of %d, call %d: %q, want %q", scheme, count, at, pair[0], pair[1])
					}
				}
				path = a
			}
		}
	}
}

// P11.2 and P11.3, and rule R3: what was told isn't changed by who adds to it, to what it was made of, or writes there.
func TestWhatWasToldStays(t *testing.T) {
	path, memory := roomy([]string{"a", "b"})
	told := [][]string{Shorten("x", path), Add("x", path, "c", false), Add("x", path, ".", false), Add("x", path, ".", true), Add("x", path, "..", false), Add("x", path, "..", true), Shorten("file", []string{"C:"})}
	want := [][]string{{"a"}, {"a", "b", "c"}, {"a", "b"}, {"a", "b", ""}, {"a"}, {"a", ""}, {"C:"}}
	for _, l := range told {
		_ = append(l, "d")
		Add("x", l, "e", true)
		Shorten("x", l)
	}
	for at := range memory {
		memory[at] = "written"
	}
	for at := range told {
		if !slices.Equal(told[at], want[at]) {
			t.Errorf("call %d: %q, want %q", at, told[at], want[at])
		}
	}
	drive, memory := roomy([]string{"C:"})
	kept := Shorten("file", drive)
	memory[0] = "written"
	if !slices.Equal(kept, []string{"C:"}) {
		t.Errorf("a drive that stays: %q", kept)
	}
}

// P11.2 and P11.3: each short path of edge segments, and each segment, held against the document's words.
func TestAllShortPaths(t *testing.T) {
	edges := []string{"", "a", "C:", "C|", "1:", "...", "%2", ".", "%2e", "..", ".%2E"}
	var all func(l []string, more int)
	all = func(l []string, more int) {
		for _, scheme := range []string{"file", "http"} {
			wantShorten(t, scheme, l, shortenBy(scheme, l))
			for _, s := range edges {
				wantAdd(t, scheme, l, s, false, addBy(scheme, l, s, false))
				wantAdd(t, scheme, l, s, true, addBy(scheme, l, s, true))
			}
		}
		for _, s := range edges {
			if more > 0 {
				all(append(slices.Clone(l), s), more-1)
			}
		}
	}
	all(nil, 3)
}

// P11.3: no segments, empty ones, and several.
func TestText(t *testing.T) {
	for want, l := range map[string][]string{
		"":            nil,
		"/":           {""},
		"//":          {"", ""},
		"///":         {"", "", ""},
		"/a":          {"a"},
		"/a/":         {"a", ""},
		"//a":         {"", "a"},
		"//a/":        {"", "a", ""},
		"/a//b":       {"a", "", "b"},
		"/a/b/c":      {"a", "b", "c"},
		"/C:":         {"C:"},
		"/C:/":        {"C:", ""},
		"/C|/..":      {"C|", ".."},
		"/./%2e":      {".", "%2e"},
		"/a/b/c/d":    {"a/b", "c/d"},
		"/\x00/\xff":  {"\x00", "\xff"},
		"/?/#/\\/ /é": {"?", "#", "\\", " ", "é"},
	} {
		path, memory := roomy(l)
		was := slices.Clone(memory)
		if got := Text(path); got != want {
			t.Errorf("%q: %q, want %q", l, got, want)
		}
		if !slices.Equal(memory, was) {
			t.Errorf("%q: the memory is %q", l, memory)
		}
	}
	if Text([]string{}) != "" {
		t.Errorf("an empty list: %q", Text([]string{}))
	}
	long := slices.Repeat([]string{"a", ""}, 200000)
	if Text(long) != strings.Repeat("/a/", 200000) {
		t.Error("a long path isn't as its parts")
	}
}

// wantTold adds segments to a path one by one, and asks each path on the way for dots, and for a file's drive; at last the path is held against the document's words.
func wantTold(t *testing.T, scheme string, segments []string, lastToo bool) {
	t.Helper()
	var l, want []string
	drive := ""
	for at, s := range segments {
		last := lastToo && at == len(segments)-1
		l, want = Add(scheme, l, s, last), addBy(scheme, want, s, last)
		for _, segment := range l {
			if slices.Contains(one, segment) || slices.Contains(two, segment) {
				t.Fatalf("%s, %q: %q", scheme, segments, l)
			}
		}
		if drive == "" && scheme == "file" && len(l) == 1 && isDrive(l[0]) {
			drive = l[0]
		}
		if drive != "" && (len(l) == 0 || l[0] != drive || drive[1] != ':') {
			t.Fatalf("%q: the drive %q is gone: %q", segments, drive, l)
		}
	}
	if !slices.Equal(l, want) {
		t.Fatalf("%s, %q: %q, want %q", scheme, segments, l, want)
	}
}

// P11.4: segments that are added one by one: all short lists of edges.
func TestAllShortListsAdded(t *testing.T) {
	edges := []string{"", "a", "C:", "d|", "1:", ".", "%2E", "..", "%2e."}
	var all func(l []string, more int)
	all = func(l []string, more int) {
		for _, scheme := range []string{"file", "http", "FILE"} {
			wantTold(t, scheme, l, false)
			wantTold(t, scheme, l, true)
		}
		for _, s := range edges {
			if more > 0 {
				all(append(slices.Clone(l), s), more-1)
			}
		}
	}
	all(nil, 5)
}

// P11.4: segments that are added one by one: longer lists by chance.
func TestListsAddedByChance(t *testing.T) {
	chance := rand.New(rand.NewSource(11))
	pool := slices.Concat(one, two, two, plainOnes, others)
	for range 3000 {
		var segments []string
		for range chance.Intn(40) {
			segments = append(segments, pool[chance.Intn(len(pool))])
		}
		wantTold(t, schemes[chance.Intn(len(schemes))], segments, chance.Intn(2) == 0)
	}
	for range 3000 {
		segments := []string{[]string{"C|", "C:", "z|"}[chance.Intn(3)]}
		for range chance.Intn(40) {
			segments = append(segments, pool[chance.Intn(len(pool))])
		}
		wantTold(t, "file", segments, chance.Intn(2) == 0)
	}
}

// P11.4: a file's drive stays, however often two dots are added; of other schemes nothing does.
func TestDriveStaysUnderManyDots(t *testing.T) {
	for _, drive := range []string{"C:", "C|", "z:", "z|"} {
		l := Add("file", nil, drive, false)
		other := Add("http", nil, drive, false)
		for count := range 300 {
			s := two[count%len(two)]
			l, other = Add("file", l, s, false), Add("http", other, s, false)
			if !slices.Equal(l, []string{drive[:1] + ":"}) || len(other) != 0 {
				t.Fatalf("%s, two dots %d times: %q, and %q", drive, count+1, l, other)
			}
		}
		for range 300 {
			l = Shorten("file", l)
		}
		if Text(l) != "/"+drive[:1]+":" || Text(Add("file", l, "..", true)) != "/"+drive[:1]+":/" {
			t.Errorf("%s: %q", drive, l)
		}
		deep := l
		for range 200 {
			deep = Add("file", deep, "x", false)
		}
		for range 300 {
			deep = Add("file", deep, "..", false)
		}
		if !slices.Equal(deep, l) {
			t.Errorf("%s, from below: %q", drive, deep)
		}
	}
}

// The chapter's example.
func TestExample(t *testing.T) {
	l := Add("file", nil, "C|", false)
	if l = Add("file", l, "..", false); !slices.Equal(l, []string{"C:"}) || Text(l) != "/C:" {
		t.Errorf("%q", l)
	}
}
