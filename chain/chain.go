// Package chain is layer 16: a partition's replica at a node, in a chain of them. See shared/doc/16-chain.md.
package chain

import (
	"heliograph/api"
	"heliograph/bin"
)

// Chain is a replica.
type Chain struct{}

// New: the replica of a partition at a node, over its bin; nil: there can be none.
func New(me, part int, b *bin.Bin) *Chain { return nil }

// Place: its place in the plan is another one, if the epoch is greater; ErrNil, ErrArg, ErrOld. Epoch: the place's. In, Head, Tail: whether it is in the chain, its head, its tail.
func (c *Chain) Place(p api.Part) api.Errno { return 0 }

func (c *Chain) Epoch() int { return 0 }

func (c *Chain) In() bool { return false }

func (c *Chain) Head() bool { return false }

func (c *Chain) Tail() bool { return false }

// Append: the head takes records; where they stand; ErrNil, ErrHead, layer 9's errors; ErrTwice: where they stood already.
func (c *Chain) Append(list []api.Rec, prod, seq, now int) (base, end int, e api.Errno) {
	return 0, 0, 0
}

// Ask: a request goes down from the head to the tail; ErrNil, ErrHead. Asked: requests that came to the tail.
func (c *Chain) Ask(q api.Req) api.Errno { return 0 }

func (c *Chain) Asked() []api.Req { return nil }

// Hear: a message comes; ErrNil, ErrArg, ErrEpoch, ErrWait, layer 9's errors. Tick: time goes on; ErrNil. Out: what is to be sent.
func (c *Chain) Hear(m api.Msg) api.Errno { return 0 }

func (c *Chain) Tick() api.Errno { return 0 }

func (c *Chain) Out() []api.Msg { return nil }

// High: up to where all are known to have all.
func (c *Chain) High() int { return 0 }
