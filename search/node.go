package search

import (
	"slices"

	"dunnage/api"
	"dunnage/state"
)

// node is a state that was met behind a row of moves.
type node struct {
	at    api.State
	key   string   // of its pods alone: the purse tells of the budgets
	ahead *node    // nil: it is the first one
	by    api.Move // leads here from the one ahead
	purse purse
	unmet int // how many wants aren't met
	least int // how many moves it takes at least to meet them
}

// newNode is a safe state, from which so many moves may still be done.
func newNode(x api.Spec, t api.State, left int) *node {
	stay, leave := 0, 0
	for i, w := range x.Wants {
		if state.Goal(api.Spec{Wants: x.Wants[i : i+1]}, t) {
			continue
		}
		if w.Stay {
			stay++
		} else {
			leave++
		}
	}
	return &node{
		at:    t,
		purse: purse{moves: left, shifts: min(left, x.Shifts-t.Shifts), preempts: min(left, x.Preempts-t.Preempts)},
		unmet: stay + leave,
		// By one move one pod comes at most, and one goes: it meets no two wants
		// of one sort.
		least: max(stay, leave),
	}
}

// row is the moves that lead to a node.
func (n *node) row() []api.Move {
	var l []api.Move
	for ; n.ahead != nil; n = n.ahead {
		l = append(l, n.by)
	}
	slices.Reverse(l)
	return l
}

// purse is how many moves may still be done, and how many Shifts and Preempts
// among them: of these no more than moves, for more are of no use, and would
// tell nodes apart from which the same can be done.
type purse struct{ moves, shifts, preempts int }

// covers tells whether what can be done with the other one can be done with
// this one.
func (p purse) covers(o purse) bool {
	return p.moves >= o.moves && p.shifts >= o.shifts && p.preempts >= o.preempts
}
