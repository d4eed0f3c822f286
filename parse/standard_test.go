package parse

import (
	"slices"
	"strings"

	"gatepost/api"
	"gatepost/fail"
	"gatepost/host"
	"gatepost/pct"
	"gatepost/scheme"
	"gatepost/utf"
)

// ended is what stands behind the last sign.
const ended = rune(-1)

// machine is the parser of the URL Standard, sign by sign, by the standard's own states: another way to what the document tells part by part.
type machine struct {
	signs                []rune
	at                   int
	state                string
	buffer               []rune
	url                  api.URL
	base                 *api.URL
	seen, inside, behind bool // an @, a [ without a ], the colon ahead of Pass
	wrong                api.Errno
}

// parseBy is Parse, by the machine: a URL, or an error's number.
func parseBy(s string, base *api.URL) (api.URL, api.Errno) {
	if len(s) > api.MaxInput {
		return api.URL{}, api.ErrTooLong
	}
	m := machine{signs: trimBy(s), state: "scheme start", base: base, url: api.URL{Port: api.NoPort}}
	for m.at = 0; ; m.at++ {
		m.step()
		if m.wrong != api.OK {
			return api.URL{}, m.wrong
		}
		if m.at >= len(m.signs) {
			return m.url, api.OK
		}
	}
}

// trimBy is Trim, by the document's words, sign by sign.
func trimBy(s string) []rune {
	l := utf.Decode(s)
	for len(l) > 0 && l[0] <= 32 {
		l = l[1:]
	}
	for len(l) > 0 && l[len(l)-1] <= 32 {
		l = l[:len(l)-1]
	}
	var kept []rune
	for _, c := range l {
		if c != 9 && c != 10 && c != 13 {
			kept = append(kept, c)
		}
	}
	return kept
}

// sign is the sign that stands so many behind the one that is read.
func (m *machine) sign(behind int) rune {
	if m.at+behind >= len(m.signs) {
		return ended
	}
	return m.signs[m.at+behind]
}

func (m *machine) special() bool { return scheme.Special(m.url.Scheme) }

// slash tells whether a sign ends a segment; ends whether it ends an authority.
func (m *machine) slash(c rune) bool { return c == '/' || c == '\\' && m.special() }
func (m *machine) ends(c rune) bool {
	return c == ended || c == '?' || c == '#' || m.slash(c)
}

// on goes on in a state, again: at the same sign.
func (m *machine) on(state string)    { m.state = state }
func (m *machine) again(state string) { m.state = state; m.at-- }

func (m *machine) fails(number api.Errno) { m.wrong = number }

// query and fragment begin what ? and # stand ahead of.
func (m *machine) query()    { m.url.HasQuery, m.url.Query = true, ""; m.on("query") }
func (m *machine) fragment() { m.url.HasFragment, m.url.Fragment = true, ""; m.on("fragment") }

func (m *machine) fromBase() {
	m.url.User, m.url.Pass, m.url.Host, m.url.Port = m.base.User, m.base.Pass, m.base.Host, m.base.Port
}

func (m *machine) pathFromBase() {
	m.url.Path = slices.Clone(m.base.Path)
	m.url.HasQuery, m.url.Query = m.base.HasQuery, m.base.Query
}

func isDrive(l string) bool {
	return len(l) == 2 && strings.Contains("abcdefghijklmnopqrstuvwxyz", strings.ToLower(l[:1])) && (l[1] == ':' || l[1] == '|')
}

// drive tells whether what is left begins with a drive's letter.
func (m *machine) drive() bool {
	left := string(m.signs[min(m.at, len(m.signs)):])
	return len(left) >= 2 && isDrive(left[:2]) && (len(left) == 2 || strings.Contains(`/\?#`, left[2:3]))
}

func (m *machine) shorten() {
	if p := m.url.Path; m.url.Scheme == "file" && len(p) == 1 && isDrive(p[0]) && p[0][1] == ':' {
		return
	}
	if count := len(m.url.Path); count > 0 {
		m.url.Path = m.url.Path[:count-1]
	}
}

func (m *machine) parseHost() {
	found, e := host.Parse(m.buffer, m.special())
	if e != nil {
		m.fails(fail.Code(e))
	}
	m.url.Host, m.buffer = found, nil
}

func (m *machine) step() {
	c := m.sign(0)
	switch m.state {
	case "scheme start", "scheme", "no scheme", "special relative or authority", "path or authority", "special authority slashes", "special authority ignore slashes":
		m.stepScheme(c)
	case "relative", "relative slash":
		m.stepRelative(c)
	case "authority", "host", "port":
		m.stepAuthority(c)
	case "file", "file slash", "file host":
		m.stepFile(c)
	default:
		m.stepPath(c)
	}
}

func (m *machine) stepScheme(c rune) {
	letter := 'a' <= c && c <= 'z' || 'A' <= c && c <= 'Z'
	small := c
	if 'A' <= c && c <= 'Z' {
		small += 'a' - 'A'
	}
	switch m.state {
	case "scheme start":
		if !letter {
			m.again("no scheme")
			return
		}
		m.buffer = append(m.buffer, small)
		m.on("scheme")
	case "scheme":
		switch {
		case letter || '0' <= c && c <= '9' || c == '+' || c == '-' || c == '.':
			m.buffer = append(m.buffer, small)
		case c == ':':
			m.url.Scheme, m.buffer = string(m.buffer), nil
			m.stepBehindScheme()
		default:
			m.buffer, m.at = nil, -1
			m.on("no scheme")
		}
	case "no scheme":
		m.stepNoScheme(c)
	case "special relative or authority":
		if c == '/' && m.sign(1) == '/' {
			m.at++
			m.on("special authority ignore slashes")
		} else {
			m.again("relative")
		}
	case "path or authority":
		if c == '/' {
			m.on("authority")
		} else {
			m.again("path")
		}
	case "special authority slashes":
		if c == '/' && m.sign(1) == '/' {
			m.at++
			m.on("special authority ignore slashes")
		} else {
			m.again("special authority ignore slashes")
		}
	case "special authority ignore slashes":
		if c != '/' && c != '\\' {
			m.again("authority")
		}
	}
}

func (m *machine) stepBehindScheme() {
	switch {
	case m.url.Scheme == "file":
		m.on("file")
	case m.special() && m.base != nil && m.base.Scheme == m.url.Scheme:
		m.on("special relative or authority")
	case m.special():
		m.on("special authority slashes")
	case m.sign(1) == '/':
		m.at++
		m.on("path or authority")
	default:
		m.url.Opaque, m.url.Path = true, []string{""}
		m.on("opaque path")
	}
}

func (m *machine) stepNoScheme(c rune) {
	switch {
	case m.base == nil || m.base.Opaque && c != '#':
		m.fails(api.ErrBase)
	case m.base.Opaque:
		m.url.Scheme, m.url.Opaque = m.base.Scheme, true
		m.pathFromBase()
		m.fragment()
	case m.base.Scheme == "file":
		m.again("file")
	default:
		m.again("relative")
	}
}

func (m *machine) stepRelative(c rune) {
	if m.state == "relative slash" {
		switch {
		case m.special() && m.slash(c):
			m.on("special authority ignore slashes")
		case c == '/':
			m.on("authority")
		default:
			m.fromBase()
			m.again("path")
		}
		return
	}
	m.url.Scheme = m.base.Scheme
	if m.slash(c) {
		m.on("relative slash")
		return
	}
	m.fromBase()
	m.onBase(c)
}

// onBase goes on from base's path.
func (m *machine) onBase(c rune) {
	m.pathFromBase()
	switch c {
	case '?':
		m.query()
	case '#':
		m.fragment()
	case ended:
	default:
		m.url.HasQuery, m.url.Query = false, ""
		if m.url.Scheme == "file" && m.drive() {
			m.url.Path = nil
		} else {
			m.shorten()
		}
		m.again("path")
	}
}

func (m *machine) stepAuthority(c rune) {
	switch m.state {
	case "authority":
		m.stepWho(c)
	case "host":
		switch {
		case c == ':' && !m.inside:
			if len(m.buffer) == 0 {
				m.fails(api.ErrHost)
				return
			}
			m.parseHost()
			m.on("port")
		case m.ends(c):
			if m.special() && len(m.buffer) == 0 {
				m.fails(api.ErrHost)
				return
			}
			m.parseHost()
			m.again("path start")
		default:
			m.inside = c == '[' || m.inside && c != ']'
			m.buffer = append(m.buffer, c)
		}
	case "port":
		switch {
		case '0' <= c && c <= '9':
			m.buffer = append(m.buffer, c)
		case m.ends(c):
			m.stepPort()
			m.again("path start")
		default:
			m.fails(api.ErrPort)
		}
	}
}

func (m *machine) stepWho(c rune) {
	switch {
	case c == '@':
		if m.seen {
			m.buffer = slices.Concat([]rune("%40"), m.buffer)
		}
		m.seen = true
		for _, sign := range m.buffer {
			switch {
			case sign == ':' && !m.behind:
				m.behind = true
			case m.behind:
				m.url.Pass += pct.Encode(pct.User, []rune{sign})
			default:
				m.url.User += pct.Encode(pct.User, []rune{sign})
			}
		}
		m.buffer = nil
	case m.ends(c):
		if m.seen && len(m.buffer) == 0 {
			m.fails(api.ErrHost)
			return
		}
		m.at -= len(m.buffer) + 1
		m.buffer = nil
		m.on("host")
	default:
		m.buffer = append(m.buffer, c)
	}
}

func (m *machine) stepPort() {
	port := 0
	for _, figure := range m.buffer {
		if port = port*10 + int(figure-'0'); port > 65535 {
			m.fails(api.ErrPort)
			return
		}
	}
	if len(m.buffer) > 0 && port != scheme.Default(m.url.Scheme) {
		m.url.Port = port
	}
	m.buffer = nil
}

func (m *machine) stepFile(c rune) {
	based := m.base != nil && m.base.Scheme == "file"
	slash := c == '/' || c == '\\'
	switch {
	case m.state == "file":
		m.url.Scheme, m.url.Host = "file", api.Host{Kind: api.Empty}
		if slash {
			m.on("file slash")
			return
		}
		if !based {
			m.again("path")
			return
		}
		m.url.Host = m.base.Host
		m.onBase(c)
	case m.state == "file slash" && slash:
		m.on("file host")
	case m.state == "file slash":
		if based {
			m.url.Host = m.base.Host
			if first := m.base.Path[0]; !m.drive() && isDrive(first) && first[1] == ':' {
				m.url.Path = append(m.url.Path, first)
			}
		}
		m.again("path")
	default:
		m.stepFileHost(c)
	}
}

func (m *machine) stepFileHost(c rune) {
	switch {
	case !m.ends(c):
		m.buffer = append(m.buffer, c)
	case isDrive(string(m.buffer)):
		m.again("path")
	case len(m.buffer) == 0:
		m.url.Host = api.Host{Kind: api.Empty}
		m.again("path start")
	default:
		m.parseHost()
		if m.url.Host.Kind == api.Domain && m.url.Host.Name == "localhost" {
			m.url.Host = api.Host{Kind: api.Empty}
		}
		m.again("path start")
	}
}

func (m *machine) stepPath(c rune) {
	switch m.state {
	case "path start":
		switch {
		case m.special() && m.slash(c):
			m.on("path")
		case m.special():
			m.again("path")
		case c == '?':
			m.query()
		case c == '#':
			m.fragment()
		case c == '/':
			m.on("path")
		case c != ended:
			m.again("path")
		}
	case "path":
		m.stepSegment(c)
	case "opaque path":
		first := &m.url.Path[0]
		switch {
		case c == '?':
			m.query()
		case c == '#':
			m.fragment()
		case c == ' ' && (m.sign(1) == '?' || m.sign(1) == '#'):
			*first += "%20"
		case c != ended:
			*first += pct.Encode(pct.C0, []rune{c})
		}
	case "query":
		set := pct.Query
		if m.special() {
			set = pct.Special
		}
		switch c {
		case '#':
			m.fragment()
		case ended:
		default:
			m.url.Query += pct.Encode(set, []rune{c})
		}
	case "fragment":
		if c != ended {
			m.url.Fragment += pct.Encode(pct.Fragment, []rune{c})
		}
	}
}

func (m *machine) stepSegment(c rune) {
	if !m.ends(c) {
		m.buffer = append(m.buffer, []rune(pct.Encode(pct.Path, []rune{c}))...)
		return
	}
	segment := string(m.buffer)
	switch strings.ReplaceAll(strings.ToLower(segment), "%2e", ".") {
	case "..":
		m.shorten()
		if !m.slash(c) {
			m.url.Path = append(m.url.Path, "")
		}
	case ".":
		if !m.slash(c) {
			m.url.Path = append(m.url.Path, "")
		}
	default:
		if m.url.Scheme == "file" && len(m.url.Path) == 0 && isDrive(segment) {
			segment = segment[:1] + ":"
		}
		m.url.Path = append(m.url.Path, segment)
	}
	m.buffer = nil
	switch c {
	case '?':
		m.query()
	case '#':
		m.fragment()
	}
}
