package origin

import (
	"fmt"
	"math"
	"math/rand"
	"reflect"
	"slices"
	"strings"
	"testing"

	"gatepost/api"
	"gatepost/parse"
	"gatepost/record"
)

// five are the schemes whose URLs belong to their host.
var five = []string{"ftp", "http", "https", "ws", "wss"}

// hosts are hosts of each kind, and how each is told.
var hosts = []struct {
	host api.Host
	text string
}{
	{api.Host{}, ""},
	{api.Host{Kind: api.Empty}, ""},
	{api.Host{Kind: api.Domain, Name: "a"}, "a"},
	{api.Host{Kind: api.Domain, Name: "www.xn--bcher-kva.x"}, "www.xn--bcher-kva.x"},
	{api.Host{Kind: api.Domain, Name: "localhost"}, "localhost"},
	{api.Host{Kind: api.Domain}, ""},
	{api.Host{Kind: api.V4}, "0.0.0.0"},
	{api.Host{Kind: api.V4, V4: 0x7F000001}, "127.0.0.1"},
	{api.Host{Kind: api.V4, V4: 0xFFFFFFFF}, "255.255.255.255"},
	{api.Host{Kind: api.V6}, "[::]"},
	{api.Host{Kind: api.V6, V6: [8]uint16{1, 0, 0, 2, 0, 0, 3, 0xABCD}}, "[1::2:0:0:3:abcd]"},
	{api.Host{Kind: api.V6, V6: [8]uint16{1, 2, 3, 4, 5, 6, 7, 8}}, "[1:2:3:4:5:6:7:8]"},
	{api.Host{Kind: api.Opaque, Name: "A%20b"}, "A%20b"},
	{api.Host{Kind: api.NoHost, Name: "a", V4: 5}, ""},
	{api.Host{Kind: api.V4, Name: "a", V4: 5, V6: [8]uint16{1}}, "0.0.0.5"},
	{api.Host{Kind: -1, Name: "a", V4: 5}, ""},
	{api.Host{Kind: 6, Name: "a", V4: 5}, ""},
}

// ports are ports, and how each is told.
var ports = map[int]string{
	-1: "", -2: "", -80: "", math.MinInt: "",
	0: ":0", 1: ":1", 21: ":21", 80: ":80", 443: ":443", 444: ":444", 8080: ":8080", 65535: ":65535", 65536: ":65536", math.MaxInt: fmt.Sprintf(":%d", math.MaxInt),
}

// nowhere is the origin of what belongs nowhere.
var nowhere = api.Origin{Opaque: true}

// short is a text that a message can bear.
func short(text string) string {
	if len(text) > 120 {
		return text[:60] + fmt.Sprintf(" .. %d bytes", len(text))
	}
	return text
}

// shown is a URL that a message can bear.
func shown(u api.URL) string {
	return short(fmt.Sprintf("%q %v %q", u.Scheme, u.Opaque, record.Text(u, false)))
}

// roomy is a list, with room behind it, and all of its memory.
func roomy(l []string) (list, memory []string) {
	memory = append(slices.Clone(l), "lies", "behind")
	return memory[:len(l)], memory
}

// wantOf asks for a URL's origin twice, and holds the memory of its path against what it was.
func wantOf(t *testing.T, u api.URL, want api.Origin) {
	t.Helper()
	var memory []string
	u.Path, memory = roomy(u.Path)
	was := slices.Clone(memory)
	for range 2 {
		if got := Of(u); got != want {
			t.Fatalf("Of %s: %s, want %s", shown(u), short(fmt.Sprintf("%+v", got)), short(fmt.Sprintf("%+v", want)))
		}
	}
	if !slices.Equal(memory, was) {
		t.Fatalf("Of %s: the memory of its path was written into", shown(u))
	}
}

// wantSame asks of two origins, both ways.
func wantSame(t *testing.T, a, b api.Origin, want bool) {
	t.Helper()
	if Same(a, b) != want || Same(b, a) != want {
		t.Fatalf("%+v and %+v: %v, and %v, want %v", a, b, Same(a, b), Same(b, a), want)
	}
	if want && Text(a) != Text(b) {
		t.Fatalf("%+v and %+v are the same: %q, and %q", a, b, Text(a), Text(b))
	}
}

// ofBy is Of, by the document's words.
func ofBy(u api.URL) api.Origin {
	if slices.Contains(five, u.Scheme) {
		var o api.Origin
		o.Scheme, o.Host, o.Port = u.Scheme, u.Host, u.Port
		return o
	}
	if u.Scheme == "blob" {
		if inner, e := parse.Parse(record.Path(u), nil); e == nil {
			if inner.Scheme == "http" || inner.Scheme == "https" {
				return ofBy(inner)
			}
		}
	}
	return nowhere
}

// sameBy is Same, by the document's words.
func sameBy(a, b api.Origin) bool {
	neither := a.Opaque == false && b.Opaque == false
	return neither && reflect.DeepEqual([]any{a.Scheme, a.Host, a.Port}, []any{b.Scheme, b.Host, b.Port})
}

// parsed is the URL of a text that has to be one.
func parsed(t *testing.T, text string) api.URL {
	t.Helper()
	u, e := parse.Parse(text, nil)
	if e != nil {
		t.Fatalf("%q: %v", short(text), e)
	}
	return u
}

// The chapter's example, and DOC.md's.
func TestOfExample(t *testing.T) {
	o := Of(parsed(t, "blob:https://a:444/x"))
	if o != (api.Origin{Scheme: "https", Host: api.Host{Kind: api.Domain, Name: "a"}, Port: 444}) || Text(o) != "https://a:444" || !Same(o, o) {
		t.Errorf("%+v, %q", o, Text(o))
	}
}

// P14.1: each of the five, with each kind of host, and each port, whatever the other fields are: made by hand, no text tells some of them.
func TestOfTheFive(t *testing.T) {
	for _, scheme := range five {
		for _, h := range hosts {
			for port, text := range ports {
				want := api.Origin{Scheme: scheme, Host: h.host, Port: port}
				for _, u := range []api.URL{
					{},
					{Path: []string{"a", "b"}},
					{User: "u", Pass: "p", Path: []string{""}, HasQuery: true, Query: "q", HasFragment: true, Fragment: "f"},
					{Opaque: true},
					{Opaque: true, Path: []string{"https://b:1/x", "y"}},
				} {
					u.Scheme, u.Host, u.Port = scheme, h.host, port
					wantOf(t, u, want)
				}
				if got := Text(want); got != scheme+"://"+h.text+text {
					t.Errorf("%+v: %q", want, got)
				}
			}
		}
	}
}

// near are texts that are otherwise in one sign, or in case: one sign taken away, put in, or put in another's place.
func near(scheme string) []string {
	all := []string{strings.ToUpper(scheme), strings.ToUpper(scheme[:1]) + scheme[1:], scheme + scheme}
	for at := range len(scheme) + 1 {
		for _, sign := range "abefhlopstwxBFHLOPSTW0-:/ \x00" {
			all = append(all, scheme[:at]+string(sign)+scheme[at:])
			if at < len(scheme) {
				all = append(all, scheme[:at]+string(sign)+scheme[at+1:])
			}
		}
		if at < len(scheme) {
			all = append(all, scheme[:at]+scheme[at+1:], scheme[:at]+strings.ToUpper(scheme[at:at+1])+scheme[at+1:])
		}
	}
	return all
}

// P14.1: file, schemes that aren't special, and those that are one of the five or blob but for a sign: nowhere, and nothing else, with a host and without one.
func TestOfOtherSchemes(t *testing.T) {
	all := []string{"", "file", "FILE", "data", "mailto", "about", "javascript", "x", "filesystem", "view-source", "null", "ftps", "sftp", "httpx", "htp", "w", "h", ":", "http:", "http://", "blob:http", "\xff", "é", strings.Repeat("http", 20000)}
	for _, scheme := range append(slices.Clone(five), "blob", "file") {
		all = append(all, near(scheme)...)
	}
	asked := 0
	for _, scheme := range all {
		if slices.Contains(five, scheme) || scheme == "blob" {
			continue
		}
		asked++
		for _, h := range hosts {
			for _, port := range []int{-1, 0, 80, 444} {
				wantOf(t, api.URL{Scheme: scheme, User: "u", Host: h.host, Port: port, Path: []string{"x"}}, nowhere)
				wantOf(t, api.URL{Scheme: scheme, Host: h.host, Port: port, Opaque: true, Path: []string{"http://b"}, HasQuery: true, Query: "q"}, nowhere)
			}
		}
	}
	if asked < 1000 {
		t.Errorf("%d schemes were asked of", asked)
	}
}

// blobs are the paths of blobs, and the texts of what they belong to.
var blobs = []struct{ path, want string }{
	{"http://b", "http://b"},
	{"http://b/", "http://b"},
	{"http://b/x/y", "http://b"},
	{"https://b/x", "https://b"},
	{"https://b:444/x", "https://b:444"},
	{"https://b:443/x", "https://b"},
	{"https://b:/x", "https://b"},
	{"https://b:80/x", "https://b:80"},
	{"http://b:80/x", "http://b"},
	{"http://b:080", "http://b"},
	{"http://b:443", "http://b:443"},
	{"http://b:0", "http://b:0"},
	{"http://b:65535", "http://b:65535"},
	{"http://u:p@b:1/x", "http://b:1"},
	{"http://b?q#f", "http://b"},
	{"http://b#blob:http://c", "http://b"},
	{"HTTP://B", "http://b"},
	{"HttpS:\\\\B\\x", "https://b"},
	{"http:b", "http://b"},
	{"http:///b", "http://b"},
	{" \thttp://b\n ", "http://b"},
	{"ht\ntp://b", "http://b"},
	{"http://0x7f.1/", "http://127.0.0.1"},
	{"http://1.2.3.4:5", "http://1.2.3.4:5"},
	{"https://[1:0:0:2:0:0:3:4]:5", "https://[1::2:0:0:3:4]:5"},
	{"http://[::]", "http://[::]"},
	{"http://B%C3%BCcher.X", "http://xn--bcher-kva.x"},
	{"http://bücher.x", "http://xn--bcher-kva.x"},
	{"https://localhost", "https://localhost"},

	{"ftp://b", "null"},
	{"ftp://b:5/x", "null"},
	{"ws://b", "null"},
	{"wss://b:5", "null"},
	{"file:///b", "null"},
	{"file://b/x", "null"},
	{"blob:http://b", "null"},
	{"blob:https://b:444/x", "null"},
	{"BLOB:http://b", "null"},
	{"blob:", "null"},
	{"blob:blob:http://b", "null"},
	{"x://b", "null"},
	{"x:http://b", "null"},
	{"data:text", "null"},
	{"httpx://b", "null"},
	{"htt://b", "null"},
	{"httpss://b", "null"},
	{"null", "null"},

	{"", "null"},
	{" ", "null"},
	{"x", "null"},
	{"//b", "null"},
	{"/http://b", "null"},
	{"?http://b", "null"},
	{"#http://b", "null"},
	{"%68ttp://b", "null"},
	{":http://b", "null"},
	{"1http://b", "null"},
	{"é://b", "null"},
	{"http", "null"},
	{"http:", "null"},
	{"http://", "null"},
	{"https://?q", "null"},
	{"http://u@", "null"},
	{"http://:5", "null"},
	{"http://b:x", "null"},
	{"http://b:65536", "null"},
	{"http://b:-1", "null"},
	{"http://b c", "null"},
	{"http://b%00", "null"},
	{"http://1.2.3.256", "null"},
	{"http://[1", "null"},
	{"http://[::g]", "null"},
	{"http://xn--a", "null"},
	{"\xff", "null"},
	{"http://\xff", "null"},
}

// P14.1: what a blob's path tells, whatever its other fields are.
func TestOfBlobs(t *testing.T) {
	for _, b := range blobs {
		for _, u := range []api.URL{
			{Port: -1, Path: []string{b.path}},
			{Port: 5, Host: api.Host{Kind: api.Domain, Name: "c"}, Path: []string{b.path}},
			{User: "u", Pass: "p", Path: []string{b.path}, HasQuery: true, Query: "x:y", HasFragment: true, Fragment: "http://d"},
			{Query: "q", Fragment: "f", Path: []string{b.path, "http://c", ""}},
			{Path: []string{b.path, b.path}, HasQuery: true, HasFragment: true},
		} {
			u.Scheme, u.Opaque = "blob", true
			o := Of(u)
			if Text(o) != b.want {
				t.Errorf("%q: %q, want %q", b.path, Text(o), b.want)
			}
			wantOf(t, u, ofBy(u))
			if b.want == "null" {
				wantOf(t, u, nowhere)
			}
		}
	}
}

// P14.1: a blob that is a list of segments is told with a slash ahead, so that it tells no URL; and one of no path at all.
func TestOfBlobsOfSegments(t *testing.T) {
	for _, b := range blobs {
		for _, path := range [][]string{
			{b.path}, {b.path, "x"}, {"", b.path}, {"x", b.path}, strings.Split(b.path, "/"), append([]string{"", ""}, strings.Split(b.path, "/")...),
		} {
			for _, h := range hosts {
				wantOf(t, api.URL{Scheme: "blob", Host: h.host, Port: 5, Path: path}, nowhere)
			}
		}
	}
	for _, opaque := range []bool{false, true} {
		for _, path := range [][]string{nil, {}, {""}, {"", ""}, {"", "http://b"}} {
			wantOf(t, api.URL{Scheme: "blob", Port: -1, Opaque: opaque, Path: path}, nowhere)
			wantOf(t, api.URL{Scheme: "blob", Host: hosts[2].host, Port: 5, Opaque: opaque, Path: path, HasQuery: true, Query: "http://b", HasFragment: true, Fragment: "http://b"}, nowhere)
		}
	}
}

// P14.1: Query and Fragment of a blob are no part of its path: what would be a port, a host or a wrong one with them, isn't.
func TestOfBlobsByPathAlone(t *testing.T) {
	for text, want := range map[string]string{
		"blob:http://a?:99999":      "http://a",
		"blob:http://a?@b":          "http://a",
		"blob:http://a#:x":          "http://a",
		"blob:http:?//a":            "null",
		"blob:http:#//a":            "null",
		"blob:?http://a":            "null",
		"blob:#http://a":            "null",
		"blob:x?http://a":           "null",
		"blob:http://a/x?#":         "http://a",
		"blob:https://a:4?44":       "https://a:4",
		"blob:https://[::1?]":       "null",
		"blob:https://a%3F.b/":      "null",
		"blob:https://a/%3F%23?q#f": "https://a",
	} {
		if got := Text(Of(parsed(t, text))); got != want {
			t.Errorf("%q: %q, want %q", text, got, want)
		}
	}
}

// P14.1: a blob's path of as many bytes as a text may have, and of one more.
func TestOfLongBlobs(t *testing.T) {
	for _, most := range []int{65535, 65536, 65537, 70000} {
		path := "https://a:444/"
		path += strings.Repeat("x", most-len(path))
		want := "https://a:444"
		if most > 65536 {
			want = "null"
		}
		u := api.URL{Scheme: "blob", Port: -1, Opaque: true, Path: []string{path}}
		if got := Text(Of(u)); got != want {
			t.Errorf("%d bytes: %q, want %q", most, got, want)
		}
		wantOf(t, u, ofBy(u))
	}
}

// P14.1 and P14.2: URLs of texts, and the texts of what they belong to.
func TestOfParsedOnes(t *testing.T) {
	for text, want := range map[string]string{
		"http://a":                   "http://a",
		"HTTP://A:80/x":              "http://a",
		"http://a:443":               "http://a:443",
		"https://u:p@a:443/x?q#f":    "https://a",
		"https://a:80":               "https://a:80",
		"ftp://a":                    "ftp://a",
		"ftp://a:21":                 "ftp://a",
		"ftp://a:0":                  "ftp://a:0",
		"ws://a":                     "ws://a",
		"ws://a:80":                  "ws://a",
		"ws://a:65535":               "ws://a:65535",
		"wss://a":                    "wss://a",
		"wss://a:443":                "wss://a",
		"wss://a:444":                "wss://a:444",
		"http:a":                     "http://a",
		"http://Bücher.X":            "http://xn--bcher-kva.x",
		"http://0x7f.1:1":            "http://127.0.0.1:1",
		"https://[::1]":              "https://[::1]",
		"wss://[1:0:0:2:0:0:3:4]:1/": "wss://[1::2:0:0:3:4]:1",
		"file:///x":                  "null",
		"file://a/x":                 "null",
		"file:C|/x":                  "null",
		"x://a":                      "null",
		"x://a:5/y":                  "null",
		"x:///y":                     "null",
		"x:y":                        "null",
		"x:/y":                       "null",
		"x:":                         "null",
		"mailto:a@b":                 "null",
		"data:text,http://a":         "null",
		"httpx://a":                  "null",
		"blob:http://a":              "http://a",
		"blob:HTTPS:A:443":           "https://a",
		"BLOB:https://u@a:444/x?q#f": "https://a:444",
		"blob:http://Bücher.X/":      "http://xn--bcher-kva.x",
		"blob:http://a b":            "null",
		"blob: http://a ":            "http://a",
		"blob:ftp://a":               "null",
		"blob:ws://a":                "null",
		"blob:wss://a":               "null",
		"blob:file:///a":             "null",
		"blob:file://a/x":            "null",
		"blob:blob:http://a":         "null",
		"blob:x":                     "null",
		"blob:":                      "null",
		"blob:/http://a":             "null",
		"blob://http://a":            "null",
		"blob://a/http://a":          "null",
		"blob://a":                   "null",
	} {
		u := parsed(t, text)
		if got := Text(Of(u)); got != want {
			t.Errorf("%q: %q, want %q", text, got, want)
		}
		wantOf(t, u, ofBy(u))
	}
}

// P14.2: an Opaque one is null, and nothing else, whatever the other fields are; each kind of host and each port of one that isn't.
func TestText(t *testing.T) {
	for _, scheme := range append([]string{"", "file", "x", "HTTP", "null", "http://", "\xff", strings.Repeat("s", 70000)}, five...) {
		for _, h := range hosts {
			for port, text := range ports {
				o := api.Origin{Scheme: scheme, Host: h.host, Port: port}
				if got := Text(o); got != scheme+"://"+h.text+text {
					t.Errorf("%s: %q", short(fmt.Sprintf("%+v", o)), short(got))
				}
				o.Opaque = true
				if got := Text(o); got != "null" {
					t.Errorf("%s: %q", short(fmt.Sprintf("%+v", o)), short(got))
				}
			}
		}
	}
	if got := Text(api.Origin{}); got != "://:0" {
		t.Errorf("of the zero value: %q", got)
	}
	if got := Text(nowhere); got != "null" {
		t.Errorf("of what is nowhere: %q", got)
	}
}

// change makes an origin another one in one field alone: one of api.Origin (but Opaque), or of api.Host, or a piece of an address.
type change struct {
	field string
	apply func(o *api.Origin)
}

// changes are each field's, some of them more than once.
func changes() []change {
	all := []change{
		{"Scheme", func(o *api.Origin) { o.Scheme += "s" }},
		{"Scheme", func(o *api.Origin) { o.Scheme = "X" + o.Scheme }},
		{"Host.Kind", func(o *api.Origin) { o.Host.Kind++ }},
		{"Host.Kind", func(o *api.Origin) { o.Host.Kind -= 7 }},
		{"Host.Name", func(o *api.Origin) { o.Host.Name += "x" }},
		{"Host.Name", func(o *api.Origin) { o.Host.Name = "X" + o.Host.Name }},
		{"Port", func(o *api.Origin) { o.Port++ }},
		{"Port", func(o *api.Origin) { o.Port -= 2 }},
		{"Port", func(o *api.Origin) { o.Port += 1 << 16 }},
	}
	for bit := range 32 {
		all = append(all, change{"Host.V4", func(o *api.Origin) { o.Host.V4 ^= 1 << bit }})
	}
	for piece := range 8 {
		for bit := range 16 {
			all = append(all, change{fmt.Sprintf("Host.V6 %d", piece), func(o *api.Origin) { o.Host.V6[piece] ^= 1 << bit }})
		}
	}
	return all
}

// P14.2: an origin and itself, and one that is otherwise in one field alone, for each field, whether it is told or not; what is Opaque isn't the same as anything.
func TestSameOfEachField(t *testing.T) {
	seen := map[string]bool{}
	for _, scheme := range []string{"", "file", "http", "https", "wss"} {
		for _, h := range hosts {
			for _, port := range []int{-5, -1, 0, 80, 443, 65535} {
				o := api.Origin{Scheme: scheme, Host: h.host, Port: port}
				opaque := o
				opaque.Opaque = true
				wantSame(t, o, o, true)
				wantSame(t, o, opaque, false)
				wantSame(t, opaque, opaque, false)
				wantSame(t, o, nowhere, false)
				wantSame(t, opaque, nowhere, false)
				for _, c := range changes() {
					seen[c.field] = true
					other, both := o, opaque
					c.apply(&other)
					c.apply(&both)
					wantSame(t, o, other, false)
					wantSame(t, other, other, true)
					wantSame(t, opaque, other, false)
					wantSame(t, o, both, false)
					wantSame(t, opaque, both, false)
				}
			}
		}
	}
	wantSame(t, nowhere, nowhere, false)
	wantSame(t, api.Origin{}, api.Origin{}, true)
	wantSame(t, api.Origin{}, nowhere, false)
	if want := 5 + 8; len(seen) != want || reflect.TypeFor[api.Origin]().NumField() != 4 || reflect.TypeFor[api.Host]().NumField() != 4 {
		t.Errorf("%d fields are asked of, want %d", len(seen), want)
	}
}

// P14.2: origins that have one text aren't always the same.
func TestSameIsNotOfTexts(t *testing.T) {
	for _, pair := range [][2]api.Origin{
		{{Scheme: "http", Port: -1}, {Scheme: "http", Port: -2}},
		{{Scheme: "http"}, {Scheme: "http", Host: api.Host{Kind: api.Empty}}},
		{{Scheme: "http", Host: api.Host{Kind: api.Domain, Name: "a"}}, {Scheme: "http", Host: api.Host{Kind: api.Opaque, Name: "a"}}},
		{{Scheme: "http", Host: api.Host{Kind: api.Domain, Name: "0.0.0.1"}}, {Scheme: "http", Host: api.Host{Kind: api.V4, V4: 1}}},
		{{Scheme: "http", Host: api.Host{Kind: api.V4, V4: 1}}, {Scheme: "http", Host: api.Host{Kind: api.V4, V4: 1, Name: "a"}}},
		{nowhere, nowhere},
	} {
		wantSame(t, pair[0], pair[1], false)
		if Text(pair[0]) != Text(pair[1]) {
			t.Errorf("%q and %q", Text(pair[0]), Text(pair[1]))
		}
	}
}

// byHand is a URL of few values for each field, such as no text tells, too.
func byHand(r *rand.Rand) api.URL {
	pick := func(from ...string) string { return from[r.Intn(len(from))] }
	is := func() bool { return r.Intn(2) == 0 }
	u := api.URL{Scheme: pick("ftp", "http", "https", "ws", "wss", "blob", "blob", "file", "x", ""), User: pick("", "u"), Pass: pick("", "p"), Port: r.Intn(4) - 2, Opaque: is(), HasQuery: is(), Query: pick("", "q"), HasFragment: is(), Fragment: pick("", "http://f")}
	if is() {
		u.Host = hosts[r.Intn(len(hosts))].host
	}
	for range r.Intn(4) {
		u.Path = append(u.Path, blobs[r.Intn(len(blobs))].path)
	}
	return u
}

// P14.1 to P14.3: URLs made by hand, held against the document's words; of their origins those that are the same have one text.
func TestURLsMadeByHand(t *testing.T) {
	r := rand.New(rand.NewSource(14))
	var few []api.Origin
	for at := range 40000 {
		u := byHand(r)
		wantOf(t, u, ofBy(u))
		if at < 400 {
			few = append(few, Of(u))
		}
	}
	for _, a := range few {
		for _, b := range few {
			wantSame(t, a, b, sameBy(a, b))
		}
	}
}

// textByChance is a text of a URL, or of nearly one, put together of parts.
func textByChance(r *rand.Rand) string {
	pick := func(from ...string) string { return from[r.Intn(len(from))] }
	text := pick("", "", "", "", "", "blob:", "blob:", "BLOB:", "blob:blob:", "blob:/", "x:", " ")
	text += pick("ftp:", "http:", "https:", "ws:", "wss:", "file:", "x:", "HTTP:", "hTTpS:", "httpx:", "")
	text += pick("//", "//", "//", "//", "/", "", "///", "\\\\")
	text += pick("", "", "", "u@", "u:p@", "@")
	text += pick("a", "a", "b", "A", "B%C3%BC", "ü", "1.2.3.4", "0x7f.1", "256.1", "[::1]", "[1:0::2]", "[1", "", "a b", "%", "localhost")
	text += pick("", "", "", ":", ":0", ":21", ":80", ":80", ":443", ":443", ":444", ":65535", ":65536", ":x")
	text += pick("", "", "/", "/x", "/x/../y", "\\x", "/\xff", "/ x ")
	text += pick("", "", "?", "?q", "? ")
	return text + pick("", "", "#", "#f", "# ")
}

// P14.3: texts by chance: what such a URL belongs to, if it isn't Opaque, is the same as what its text does; of origins each with each those that are the same have one text.
func TestURLsByChance(t *testing.T) {
	r := rand.New(rand.NewSource(41))
	told := map[string]api.Origin{}
	somewhere, blobsSomewhere, opaque := 0, 0, 0
	for range 40000 {
		u, e := parse.Parse(textByChance(r), nil)
		if e != nil {
			continue
		}
		o := Of(u)
		wantOf(t, u, ofBy(u))
		again := Of(parsed(t, record.Text(u, false)))
		wantSame(t, o, again, !o.Opaque)
		if o.Opaque {
			opaque++
			if again != nowhere {
				t.Fatalf("%s: %+v by its text", shown(u), again)
			}
			continue
		}
		somewhere++
		if u.Scheme == "blob" {
			blobsSomewhere++
		}
		text := Text(o)
		if was, ok := told[text]; ok && was != o {
			t.Fatalf("%q is told of %+v and of %+v", text, was, o)
		}
		told[text] = o
	}
	if somewhere < 5000 || blobsSomewhere < 500 || opaque < 3000 || len(told) < 200 {
		t.Errorf("%d belong somewhere, %d of them blobs, %d nowhere, %d texts", somewhere, blobsSomewhere, opaque, len(told))
	}
	for first, a := range told {
		for second, b := range told {
			wantSame(t, a, b, first == second)
		}
	}
}

// P14.3: an origin, that isn't Opaque, of a URL that was parsed is the one of its text, too.
func TestOriginsBelongByTheirText(t *testing.T) {
	for _, b := range blobs {
		for _, text := range []string{b.path, "blob:" + b.path} {
			u, e := parse.Parse(text, nil)
			if e != nil {
				continue
			}
			o := Of(u)
			if o.Opaque {
				wantOf(t, u, nowhere)
				continue
			}
			wantSame(t, o, Of(parsed(t, Text(o))), true)
			wantSame(t, o, Of(parsed(t, "blob:"+Text(o))), o.Scheme == "http" || o.Scheme == "https")
			wantSame(t, o, Of(parsed(t, record.Text(u, true))), true)
			wantSame(t, o, Of(parsed(t, record.Text(u, false))), true)
		}
	}
}
