// Package fail is layer 1: errors that wrap others, down to an error's number. See shared/doc/01-fail.md.
package fail

import (
	"errors"
	"iter"
	"strings"

	"gatepost/api"
)

// Fail is an error of a call, that wraps another one.
type Fail struct {
	Call string
	Err  error
}

// Error is its text. It goes down in a loop, so that an error that is wrapped very often costs no more than its text is long.
func (f *Fail) Error() string {
	var text strings.Builder
	for f != nil && f.Err != nil {
		text.WriteString(f.Call)
		text.WriteString(": ")
		inner, ok := f.Err.(*Fail)
		if !ok {
			text.WriteString(textOf(f.Err))
			break
		}
		f = inner
	}
	return text.String()
}

// Unwrap is what it wraps.
func (f *Fail) Unwrap() error {
	if f == nil {
		return nil
	}
	return f.Err
}

// Wrap is an error of a call.
func Wrap(call string, e error) error {
	if e == nil {
		return nil
	}
	return &Fail{Call: call, Err: e}
}

// All is an error of several calls, the first one innermost.
func All(calls []string, e api.Errno) error {
	if e == api.OK {
		return nil
	}
	var wrapped error = e
	for _, call := range calls {
		wrapped = Wrap(call, wrapped)
	}
	return wrapped
}

// Code is the number that an error is, or wraps.
func Code(e error) api.Errno {
	if e == nil {
		return api.OK
	}
	if number, ok := find[api.Errno](e); ok {
		return number
	}
	return api.ErrNone
}

// Calls are those that wrap an error, the outermost one first.
func Calls(e error) []string {
	var calls []string
	for f := range fails(e) {
		calls = append(calls, f.Call)
	}
	return calls
}

// fails goes through the Fails of an error, from the outermost one in. One that is nil has no call and wraps nothing, so the way ends there.
func fails(e error) iter.Seq[*Fail] {
	return func(yield func(*Fail) bool) {
		rest := e
		for rest != nil {
			f, ok := find[*Fail](rest)
			if !ok || f == nil || !yield(f) {
				return
			}
			rest = f.Unwrap()
		}
	}
}

// find is errors.As. The methods of errors from elsewhere may panic (a nil pointer of theirs, say), and no call here may: in such an error nothing is found.
func find[T error](e error) (found T, ok bool) {
	defer func() {
		if recover() != nil {
			var none T
			found, ok = none, false
		}
	}()
	ok = errors.As(e, &found)
	return found, ok
}

// textOf is an error's text, or the empty one, if its Error panics, for the reason that find gives.
func textOf(e error) (text string) {
	defer func() {
		if recover() != nil {
			text = ""
		}
	}()
	return e.Error()
}
