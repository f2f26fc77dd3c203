// Package bead is layer 1: numbers, texts and lists as bytes that tell their own ends. See shared/doc/01-bead.md.
package bead

import (
	"strconv"
	"strings"

	"heliograph/api"
)

// The things that a reader is asked for, each by the letter that marks it.
const (
	number = 'i'
	text   = ':'
	open   = 'l'
	end    = 'e'
)

// Int: a number's bytes. Text: a text's. List: those of things one behind the other, as one thing.
func Int(n int) string { return "i" + strconv.Itoa(n) + "e" }

func Text(s string) string { return strconv.Itoa(len(s)) + ":" + s }

func List(parts ...string) string { return "l" + strings.Join(parts, "") + "e" }

// Reader takes things off bytes.
type Reader struct {
	rest  string // the bytes from its place on
	wrong bool
}

// New: a reader of bytes.
func New(s string) *Reader { return &Reader{rest: s} }

// Int: a number. Text: a text of at most most bytes. Open: a list begins. More: whether the list has more. Close: it ends.
func (r *Reader) Int() int {
	n, _ := r.take(number, 0)
	return n
}

func (r *Reader) Text(most int) string {
	_, s := r.take(text, most)
	return s
}

func (r *Reader) Open() { r.take(open, 0) }

func (r *Reader) More() bool {
	return r != nil && !r.wrong && r.rest != "" && r.rest[0] != end
}

func (r *Reader) Close() { r.take(end, 0) }

// Done: whether all went right, and nothing is left; ErrNil, ErrForm.
func (r *Reader) Done() api.Errno {
	switch {
	case r == nil:
		return api.ErrNil
	case r.wrong || r.rest != "":
		return api.ErrForm
	}
	return api.OK
}

// take takes a thing off the bytes. All things are taken here, so that there is one place where a reader goes wrong.
func (r *Reader) take(thing byte, most int) (int, string) {
	if r == nil || r.wrong {
		return 0, ""
	}
	switch thing {
	case number:
		body, begun := strings.CutPrefix(r.rest, "i")
		digits, behind, ended := strings.Cut(body, "e")
		n, right := decimal(digits)
		if !begun || !ended || !right {
			goto wrong
		}
		r.rest = behind
		return n, ""
	case text:
		digits, behind, ended := strings.Cut(r.rest, ":")
		size, right := decimal(digits)
		// The size is held against what is there, not added to a place: it may be as great as numbers are.
		if !ended || !right || size < 0 || size > most || size > len(behind) {
			goto wrong
		}
		r.rest = behind[size:]
		return 0, behind[:size]
	default:
		if r.rest == "" || r.rest[0] != thing {
			goto wrong
		}
		r.rest = r.rest[1:]
		return 0, ""
	}
wrong:
	r.wrong = true
	return 0, ""
}

// decimal: the number of 64 bits whose digits these are. It is written anew, since strconv takes other forms of it too: with a plus, with a 0 ahead, -0.
func decimal(digits string) (int, bool) {
	n, err := strconv.Atoi(digits)
	return n, err == nil && strconv.Itoa(n) == digits
}
