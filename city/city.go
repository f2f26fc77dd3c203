// Package city is layer 20: the master, nodes, clients, and all that is under way between them, step by step. See shared/doc/20-city.md.
package city

import "heliograph/api"

// City is all of it.
type City struct{}

// New: a city of a layout, all up; nil: there can be none.
func New(c api.Config) *City { return nil }

// Do: a step; what applications are told in it; ErrNil, ErrArg, ErrState, ErrNone, ErrDown, ErrBusy, and those of the units.
func (t *City) Do(s api.Step) ([]api.Said, api.Errno) { return nil, 0 }

// Up: whether a unit is up. Busy: whether a client's call isn't answered yet. Count: how many messages are under way. Plan: what the master knows; ErrNil, ErrDown.
func (t *City) Up(unit int) bool { return false }

func (t *City) Busy(client int) bool { return false }

func (t *City) Count() int { return 0 }

func (t *City) Plan() (api.Plan, api.Errno) { return api.Plan{}, 0 }

// Look: a node's batches of a partition, where they begin and end, and in which epoch it is; false: it isn't up, or has none.
func (t *City) Look(node, part int) (list []api.Batch, start, end, epoch int, ok bool) {
	return nil, 0, 0, 0, false
}
