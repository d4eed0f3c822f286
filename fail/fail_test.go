package fail

import (
	"errors"
	"fmt"
	"slices"
	"strings"
	"testing"

	"gatepost/api"
)

// numbers are all that api names but OK, and two that it doesn't name.
var numbers = []api.Errno{
	api.ErrArg, api.ErrForm, api.ErrHost, api.ErrPort, api.ErrBase, api.ErrTooLong,
	api.ErrStale, api.ErrFull, api.ErrClosed, api.ErrNone, -1, 99,
}

// broken is an error all of whose methods panic.
type broken struct{}

func (broken) Error() string { panic("error") }
func (broken) Unwrap() error { panic("unwrap") }
func (broken) As(any) bool   { panic("as") }

// liar sets what errors.As asks for, and denies it.
type liar struct{}

func (liar) Error() string { return "liar" }
func (liar) As(target any) bool {
	switch t := target.(type) {
	case *api.Errno:
		*t = api.ErrFull
	case **Fail:
		*t = &Fail{Call: "lie"}
	}
	return false
}

func manyCalls(n int) []string {
	calls := make([]string, n)
	for i := range calls {
		calls[i] = fmt.Sprintf("c%d", i)
	}
	return calls
}

func reversed(calls []string) []string {
	back := slices.Clone(calls)
	slices.Reverse(back)
	return back
}

// P1.1: what Wrap makes.
func TestWrapMakesAFail(t *testing.T) {
	other := errors.New("other")
	inner := &Fail{Call: "in", Err: other}
	for _, e := range []error{api.ErrHost, api.OK, other, inner, broken{}} {
		for _, call := range []string{"host", "", "a: b"} {
			f, ok := Wrap(call, e).(*Fail)
			if !ok || f == nil || f.Call != call || f.Err != e || f.Unwrap() != e {
				t.Errorf("Wrap(%q, %T): %#v", call, e, f)
			}
		}
	}
	if e := Wrap("host", nil); e != nil {
		t.Errorf("Wrap of nil: %#v", e)
	}
}

// P1.1: the text of what is wrapped.
func TestErrorIsCallColonBlankText(t *testing.T) {
	var none *Fail
	tests := []struct {
		e    error
		want string
	}{
		{Wrap("host", api.ErrHost), "host: host"},
		{Wrap("parse", Wrap("host", api.ErrHost)), "parse: host: host"},
		{Wrap("", api.ErrTooLong), ": too long"},
		{Wrap("x", api.OK), "x: ok"},
		{Wrap("x", api.Errno(99)), "x: error"},
		{Wrap("x", errors.New("other")), "x: other"},
		{Wrap("x", errors.New("")), "x: "},
		{Wrap("x", fmt.Errorf("mid: %w", Wrap("y", api.ErrPort))), "x: mid: y: port"},
		{Wrap("x", none), "x: "},
		{Wrap("x", &Fail{Call: "y"}), "x: "},
		{Wrap("x", Wrap("y", none)), "x: y: "},
	}
	for _, c := range tests {
		if got := c.e.Error(); got != c.want {
			t.Errorf("got %q, want %q", got, c.want)
		}
	}
}

// P1.1: a Fail of nothing.
func TestFailOfNothing(t *testing.T) {
	var none *Fail
	for _, f := range []*Fail{none, {}, {Call: "x"}} {
		if f.Error() != "" || f.Unwrap() != nil {
			t.Errorf("%#v: %q, %v", f, f.Error(), f.Unwrap())
		}
	}
}

// P1.2: each number, by calls.
func TestAllWrapsFirstCallInnermost(t *testing.T) {
	for _, n := range numbers {
		for _, calls := range [][]string{{"a"}, {"a", "b"}, {"a", "", "a", "c"}, manyCalls(api.MaxWrap)} {
			given := slices.Clone(calls)
			e := All(calls, n)
			for _, call := range reversed(calls) {
				f, ok := e.(*Fail)
				if !ok || f.Call != call {
					t.Fatalf("All(%q, %d): %#v where %q is wanted", calls, n, e, call)
				}
				e = f.Err
			}
			if e != error(n) {
				t.Errorf("All(%q, %d): innermost %#v", calls, n, e)
			}
			if !slices.Equal(calls, given) {
				t.Errorf("the calls that were handed in were changed: %q", calls)
			}
		}
	}
}

// P1.2: OK, and no calls.
func TestAllOfOKOrWithoutCalls(t *testing.T) {
	for _, calls := range [][]string{nil, {}, {"a"}, {"a", "b"}} {
		if e := All(calls, api.OK); e != nil {
			t.Errorf("All(%q, OK): %#v", calls, e)
		}
	}
	for _, n := range numbers {
		for _, calls := range [][]string{nil, {}} {
			if e := All(calls, n); e != error(n) {
				t.Errorf("All of no calls, %d: %#v", n, e)
			}
		}
	}
}

// All keeps nothing of the slice, so whoever handed it in may use it again.
func TestAllKeepsNoSlice(t *testing.T) {
	calls := []string{"a", "b"}
	e := All(calls, api.ErrForm)
	calls[0], calls[1] = "x", "y"
	if e.Error() != "b: a: form" {
		t.Errorf("got %q", e.Error())
	}
}

// P1.3: Code.
func TestCode(t *testing.T) {
	var none *Fail
	tests := []struct {
		name string
		e    error
		want api.Errno
	}{
		{"nil", nil, api.OK},
		{"OK itself", api.OK, api.OK},
		{"OK wrapped", Wrap("x", api.OK), api.OK},
		{"no number", errors.New("other"), api.ErrNone},
		{"no number wrapped", Wrap("y", Wrap("x", errors.New("other"))), api.ErrNone},
		{"a Fail that is nil", none, api.ErrNone},
		{"a Fail that wraps nil", &Fail{Call: "x"}, api.ErrNone},
		{"a Fail of a Fail that is nil", Wrap("x", none), api.ErrNone},
		{"wrapped by another type", fmt.Errorf("mid: %w", Wrap("x", api.ErrBase)), api.ErrBase},
		{"joined: the first one", errors.Join(errors.New("other"), Wrap("x", api.ErrFull), api.ErrPort), api.ErrFull},
		{"methods that panic", Wrap("x", broken{}), api.ErrNone},
		{"an As that answers false", Wrap("x", liar{}), api.ErrNone},
	}
	for _, c := range tests {
		if got := Code(c.e); got != c.want {
			t.Errorf("%s: got %d, want %d", c.name, got, c.want)
		}
	}
	for _, n := range numbers {
		if Code(n) != n || Code(Wrap("x", n)) != n || Code(All([]string{"a", "b", "c"}, n)) != n {
			t.Errorf("number %d isn't told back", n)
		}
	}
}

// P1.3: Calls.
func TestCalls(t *testing.T) {
	var none *Fail
	tests := []struct {
		name string
		e    error
		want []string
	}{
		{"nil", nil, nil},
		{"a number", api.ErrArg, nil},
		{"no number", errors.New("other"), nil},
		{"one call", Wrap("x", api.ErrArg), []string{"x"}},
		{"an empty call", Wrap("", api.ErrArg), []string{""}},
		{"the outermost first", Wrap("parse", Wrap("host", api.ErrHost)), []string{"parse", "host"}},
		{"the same call twice", Wrap("x", Wrap("x", api.ErrHost)), []string{"x", "x"}},
		{"no number below", Wrap("y", Wrap("x", errors.New("other"))), []string{"y", "x"}},
		{"a Fail that is nil", none, nil},
		{"a Fail that wraps nil", &Fail{Call: "x"}, []string{"x"}},
		{"a Fail of a Fail that is nil", Wrap("x", none), []string{"x"}},
		{"another type above", fmt.Errorf("top: %w", Wrap("x", api.ErrArg)), []string{"x"}},
		{"another type between", Wrap("a", fmt.Errorf("mid: %w", Wrap("b", api.ErrArg))), []string{"a", "b"}},
		{"joined: the way that errors.As takes", Wrap("a", errors.Join(errors.New("other"), Wrap("b", api.ErrArg), Wrap("c", api.ErrArg))), []string{"a", "b"}},
		{"methods that panic", Wrap("a", Wrap("b", broken{})), []string{"a", "b"}},
		{"an As that answers false", Wrap("a", liar{}), []string{"a"}},
	}
	for _, c := range tests {
		if got := Calls(c.e); !slices.Equal(got, c.want) {
			t.Errorf("%s: got %q, want %q", c.name, got, c.want)
		}
	}
}

// P1.3: what Calls tells is new each time.
func TestCallsAreNewMemory(t *testing.T) {
	e := All([]string{"a", "b"}, api.ErrArg)
	Calls(e)[0] = "changed"
	if got := Calls(e); !slices.Equal(got, []string{"b", "a"}) {
		t.Errorf("got %q", got)
	}
}

// A consumer that stops early is not told any more.
func TestFailsStopsWhenAsked(t *testing.T) {
	seen := 0
	for range fails(All(manyCalls(5), api.ErrArg)) {
		seen++
		if seen == 2 {
			break
		}
	}
	if seen != 2 {
		t.Errorf("seen: %d", seen)
	}
}

// P1.4: the number is found however often it is wrapped, and no other one.
func TestNumberIsFoundAndNoOther(t *testing.T) {
	for _, depth := range []int{0, 1, 2, api.MaxWrap, api.MaxWrap + 1, 1000} {
		for _, n := range numbers {
			e := All(manyCalls(depth), n)
			for _, m := range append([]api.Errno{api.OK}, numbers...) {
				if errors.Is(e, m) != (m == n) {
					t.Errorf("depth %d: errors.Is of %d, by %d, is %v", depth, n, m, m != n)
				}
			}
		}
	}
	e := Wrap("c", fmt.Errorf("mid: %w", Wrap("a", api.ErrStale)))
	if !errors.Is(e, api.ErrStale) || errors.Is(e, api.ErrFull) {
		t.Error("through another type")
	}
}

// P1, P8: there and back, at the depth up to which the document promises anything.
func TestDeepNesting(t *testing.T) {
	const deep = 1 << 16
	calls := manyCalls(deep)
	e := All(calls, api.ErrClosed)
	if Code(e) != api.ErrClosed || !errors.Is(e, api.ErrClosed) || errors.Is(e, api.ErrFull) {
		t.Error("the number is lost")
	}
	back := reversed(calls)
	if !slices.Equal(Calls(e), back) {
		t.Error("the calls are lost")
	}
	if e.Error() != strings.Join(back, ": ")+": closed" {
		t.Error("the text is lost")
	}
}

// P1: an error from elsewhere that panics makes no call here panic.
func TestMethodsThatPanic(t *testing.T) {
	if got := Wrap("y", Wrap("x", broken{})).Error(); got != "y: x: " {
		t.Errorf("text: %q", got)
	}
	if Code(broken{}) != api.ErrNone || len(Calls(broken{})) > 0 {
		t.Error("something was found in what panics")
	}
}
