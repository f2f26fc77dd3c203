// Package gauge is layer 4: how many records and bytes there are, as one number of two parts. See shared/doc/04-gauge.md.
package gauge

import (
	"iter"

	"heliograph/api"
)

// Of: a batch's size: its records, and its bytes as the second part. Parts: how many records, how many bytes.
func Of(b api.Batch) complex128 { return 0 }

func Parts(c complex128) (int, int) { return 0, 0 }

// Row is sizes one behind the other.
type Row struct{}

// New: a row of none. Push: a size more, behind; ErrNil, ErrArg. Shift: the first one is taken; false: there is none. Set: the size at a place is another one; ErrNil, ErrArg.
func New() *Row { return nil }

func (r *Row) Push(c complex128) api.Errno { return 0 }

func (r *Row) Shift() (complex128, bool) { return 0, false }

func (r *Row) Set(at int, c complex128) api.Errno { return 0 }

// Len: how many there are. Sum: all together. Ahead: those ahead of a place together. All: each one, with those up to it together.
func (r *Row) Len() int { return 0 }

func (r *Row) Sum() complex128 { return 0 }

func (r *Row) Ahead(at int) complex128 { return 0 }

func (r *Row) All() iter.Seq2[complex128, complex128] {
	return func(func(complex128, complex128) bool) {}
}

// Over: how many of the first ones must go, so that the bytes of the rest are at most most; the last one always stays.
func (r *Row) Over(most int) int { return 0 }
