// Package gauge is layer 4: how many records and bytes there are, as one number of two parts. See shared/doc/04-gauge.md.
package gauge

import (
	"iter"
	"math"
	"slices"

	"heliograph/api"
	"heliograph/crate"
	"heliograph/frame"
)

// A part of a size is at most greatest, and a row has at most places of them: together they are below 2^53, up to where a float tells each whole number.
const (
	greatest = 1 << 40
	places   = 4096
)

// Of: a batch's size: its records, and its bytes as the second part. Parts: how many records, how many bytes.
func Of(b api.Batch) complex128 {
	body, e := crate.Encode(b)
	if e != api.OK {
		return 0
	}
	// A batch's bytes are never too many for a frame.
	text, _ := frame.Put(body)
	return complex(float64(len(b.Recs)), float64(len(text)))
}

func Parts(c complex128) (int, int) {
	if !isSize(c) {
		return 0, 0
	}
	return int(real(c)), int(imag(c))
}

// Row is sizes one behind the other.
type Row struct {
	sizes []complex128
	sum   complex128
}

// New: a row of none. Push: a size more, behind; ErrNil, ErrArg. Shift: the first one is taken; false: there is none. Set: the size at a place is another one; ErrNil, ErrArg.
func New() *Row { return &Row{} }

func (r *Row) Push(c complex128) api.Errno {
	switch {
	case r == nil:
		return api.ErrNil
	case !isSize(c) || len(r.sizes) == places:
		return api.ErrArg
	}
	r.sizes = append(r.sizes, c)
	r.sum += c
	return api.OK
}

func (r *Row) Shift() (complex128, bool) {
	if r.Len() == 0 {
		return 0, false
	}
	first := r.sizes[0]
	r.sizes = r.sizes[1:]
	r.sum -= first
	return first, true
}

func (r *Row) Set(at int, c complex128) api.Errno {
	switch {
	case r == nil:
		return api.ErrNil
	case at < 0 || at >= len(r.sizes) || !isSize(c):
		return api.ErrArg
	}
	r.sum += c - r.sizes[at]
	r.sizes[at] = c
	return api.OK
}

// Len: how many there are. Sum: all together. Ahead: those ahead of a place together. All: each one, with those up to it together.
func (r *Row) Len() int {
	if r == nil {
		return 0
	}
	return len(r.sizes)
}

func (r *Row) Sum() complex128 {
	if r == nil {
		return 0
	}
	return r.sum
}

func (r *Row) Ahead(at int) complex128 {
	if r == nil {
		return 0
	}
	var sum complex128
	for _, c := range r.sizes[:min(max(at, 0), len(r.sizes))] {
		sum += c
	}
	return sum
}

func (r *Row) All() iter.Seq2[complex128, complex128] {
	return func(yield func(complex128, complex128) bool) {
		if r == nil {
			return
		}
		var sum complex128
		// A copy of each going's own: the row may be changed while one goes on.
		for _, c := range slices.Clone(r.sizes) {
			sum += c
			if !yield(c, sum) {
				return
			}
		}
	}
}

// Over: how many of the first ones must go, so that the bytes of the rest are at most most; the last one always stays.
func (r *Row) Over(most int) int {
	if r == nil {
		return 0
	}
	rest := r.sum
	for n, c := range r.sizes {
		if int(imag(rest)) <= most {
			return n
		}
		rest -= c
	}
	return max(len(r.sizes)-1, 0)
}

func isSize(c complex128) bool { return isPart(real(c)) && isPart(imag(c)) }

func isPart(x float64) bool {
	return 0 <= x && x <= greatest && x == math.Trunc(x)
}
