package search

import (
	"math"
	"reflect"
	"slices"
	"testing"

	"dunnage/api"
	"dunnage/cluster"
	"dunnage/safe"
	"dunnage/state"
	"dunnage/step"
)

func place(pod, node int) api.Move { return api.Move{Kind: api.Place, Pod: pod, Node: node} }
func evict(pod int) api.Move       { return api.Move{Kind: api.Evict, Pod: pod} }
func shift(pod, node int) api.Move { return api.Move{Kind: api.Shift, Pod: pod, Node: node} }
func preempt(pod, node, over int) api.Move {
	return api.Move{Kind: api.Preempt, Pod: pod, Node: node, Over: over}
}

func stay(pod int, req uint64) api.Want {
	return api.Want{Pod: pod, Stay: true, Req: api.Vec{req}}
}

func leave(pod int) api.Want { return api.Want{Pod: pod} }

// pod is one of load 1 with this Req, at a node; its Id is told by yard.
func pod(req uint64, node int) api.Pod { return api.Pod{Load: 1, Req: api.Vec{req}, Node: node} }

// over is one of a Prio above 0, likewise.
func over(prio int, req uint64, node int) api.Pod {
	p := pod(req, node)
	p.Prio = prio
	return p
}

// yard is nodes 1, 2 and so on, each of a zone of its own, with room for so much;
// load 1; and pods 1, 2 and so on.
func yard(rooms []uint64, pods ...api.Pod) api.Snapshot {
	s := api.Snapshot{Loads: []api.Load{{Id: 1, Max: api.MaxCount}}}
	for i, room := range rooms {
		s.Nodes = append(s.Nodes, api.Node{Id: 1 + i, Zone: 1 + i, Cap: api.Vec{room + 1}, Held: api.Vec{1}})
	}
	for i, p := range pods {
		p.Id = 1 + i
		s.Pods = append(s.Pods, p)
	}
	return s
}

// told holds what Plan tells against all that is promised, where a plan has at
// least so many moves; it tells what Plan told.
func told(t *testing.T, name string, s api.Snapshot, x api.Spec, depth, steps, least int) api.Verdict {
	t.Helper()
	v, err := Plan(s, x, depth, steps)
	again, twice := Plan(s, x, depth, steps)
	if err != nil || twice != nil || !reflect.DeepEqual(v, again) {
		t.Fatalf("%s: %v, %v, depth %d, steps %d: %v, %v, and then %v, %v", name, s, x, depth, steps, v, err, again, twice)
	}
	fail := func(why string) {
		t.Helper()
		t.Fatalf("%s: %v, %v, depth %d, steps %d, where it takes %d moves: %v: %s", name, s, x, depth, steps, least, v, why)
	}
	if v.Steps < 0 || v.Steps > steps {
		fail("so many weren't expanded")
	}
	if v.Kind != api.Found && len(v.Moves) > 0 {
		fail("there are moves")
	}
	switch v.Kind {
	case api.Found:
		if why := noPlan(s, x, depth, v.Moves); why != "" || least > depth {
			fail(why)
		}
	case api.None:
		if least <= depth {
			fail("there is a plan")
		}
	case api.Spent:
		if v.Steps != steps || steps >= rows(s, depth) {
			fail("there are steps")
		}
	default:
		fail("no Kind")
	}
	return v
}

// noPlan tells why moves aren't a plan.
func noPlan(s api.Snapshot, x api.Spec, depth int, l []api.Move) string {
	last, done, err := step.Walk(s, x, l)
	switch {
	case len(l) > depth:
		return "it is too long"
	case err != nil || done != len(l):
		return "it can't be walked"
	case !state.Goal(x, last):
		return "not all wants are met"
	}
	return ""
}

// found holds that with steps enough a plan is found at this depth, and it is
// one of those that are due (none are told: any).
func found(t *testing.T, name string, s api.Snapshot, x api.Spec, depth, least int, due ...[]api.Move) {
	t.Helper()
	v := told(t, name, s, x, depth, api.MaxSteps, least)
	if v.Kind != api.Found {
		t.Errorf("%s: depth %d: %v", name, depth, v)
	}
	same := func(l []api.Move) bool { return slices.Equal(l, v.Moves) }
	if len(due) > 0 && !slices.ContainsFunc(due, same) {
		t.Errorf("%s: depth %d: %v, want one of %v", name, depth, v, due)
	}
}

// isNone holds that None is told, with no more than so many of all steps.
func isNone(t *testing.T, name string, s api.Snapshot, x api.Spec, depth, steps int) {
	t.Helper()
	v := told(t, name, s, x, depth, api.MaxSteps, never)
	if v.Kind != api.None || v.Steps > steps {
		t.Errorf("%s: depth %d: %v, want None, with at most %d Steps", name, depth, v, steps)
	}
}

// sample is a snapshot, a spec, and how many moves it takes at least.
type sample struct {
	name  string
	s     api.Snapshot
	x     api.Spec
	least int
	due   [][]api.Move // all plans of so many moves, if there are few
}

// as changes a snapshot's load.
func as(s api.Snapshot, load api.Load) api.Snapshot {
	load.Id = 1
	s.Loads = []api.Load{load}
	return s
}

func wants(l ...api.Want) api.Spec { return api.Spec{Wants: l} }

func granted(preempts, shifts int, l ...api.Want) api.Spec {
	return api.Spec{Wants: l, Preempts: preempts, Shifts: shifts}
}

// met are clusters where all wants are met at once.
func met() []sample {
	s := yard([]uint64{9, 9}, pod(2, 1), pod(3, 0), over(1, 1, 2))
	return []sample{
		{"no wants", s, api.Spec{}, 0, nil},
		{"no wants, but budgets", s, granted(40, 40), 0, nil},
		{"no wants, an empty list", s, wants([]api.Want{}...), 0, nil},
		{"no pods", yard([]uint64{1}), api.Spec{}, 0, nil},
		{"no pods, no loads", api.Snapshot{Nodes: s.Nodes}, api.Spec{}, 0, nil},
		{"one that stays", s, wants(stay(1, 2)), 0, nil},
		{"one that is nowhere", s, wants(leave(2)), 0, nil},
		{"all", s, granted(1, 1, stay(1, 2), leave(2), stay(3, 1)), 0, nil},
	}
}

// ofOne are clusters where it takes one move.
func ofOne() []sample {
	pair := yard([]uint64{3}, pod(3, 1), over(2, 2, 0))
	return []sample{
		{"a Place", yard([]uint64{4}, pod(2, 0)), wants(stay(1, 2)), 1, [][]api.Move{{place(1, 1)}}},
		{"a Place, with another Req", yard([]uint64{4}, pod(9, 0)), wants(stay(1, 4)), 1, [][]api.Move{{place(1, 1)}}},
		{"a Place at one of two nodes", yard([]uint64{1, 2}, pod(2, 0)), wants(stay(1, 2)), 1, [][]api.Move{{place(1, 2)}}},
		{"a Place where one is already", yard([]uint64{4}, pod(2, 1), pod(2, 0)), wants(stay(2, 2)), 1, [][]api.Move{{place(2, 1)}}},
		{"an Evict", yard([]uint64{4}, pod(2, 1)), wants(leave(1)), 1, [][]api.Move{{evict(1)}}},
		{"an Evict of one of two", yard([]uint64{4}, pod(2, 1), pod(2, 1)), wants(stay(1, 2), leave(2)), 1, [][]api.Move{{evict(2)}}},
		{"a Shift, for another Req", yard([]uint64{2, 4}, pod(2, 1)), granted(0, 1, stay(1, 3)), 1, [][]api.Move{{shift(1, 2)}}},
		{"a Preempt, which meets a want", pair, granted(1, 0, stay(2, 2)), 1, [][]api.Move{{preempt(2, 1, 1)}}},
		{"a Preempt, which meets two wants", pair, granted(1, 0, leave(1), stay(2, 2)), 1, [][]api.Move{{preempt(2, 1, 1)}}},
		{"a Preempt, for there are neither more nor fewer to be", as(pair, api.Load{Min: 1, Max: 1}), granted(1, 0, stay(2, 2)), 1, [][]api.Move{{preempt(2, 1, 1)}}},
	}
}

// ofMore are clusters where it takes two moves, or more.
func ofMore() []sample {
	pair := yard([]uint64{3}, pod(3, 1), over(2, 2, 0))
	roll := yard([]uint64{2, 2}, pod(2, 1), pod(2, 0))
	aside := yard([]uint64{4, 3}, pod(2, 1), pod(4, 0))
	swap := yard([]uint64{3, 2}, pod(2, 1), pod(2, 2))
	three := yard([]uint64{3}, pod(1, 0), pod(1, 0), pod(1, 0))
	return []sample{
		{"another Req at the one node", yard([]uint64{4}, pod(2, 1)), granted(9, 9, stay(1, 3)), 2, [][]api.Move{{evict(1), place(1, 1)}}},
		{"another Req, and no Shift", yard([]uint64{2, 4}, pod(2, 1)), wants(stay(1, 3)), 2, [][]api.Move{{evict(1), place(1, 2)}}},
		{"another one must go first, of which nothing is wanted", pair, wants(stay(2, 2)), 2, [][]api.Move{{evict(1), place(2, 1)}}},
		{"another one must go first, and is to go", pair, wants(leave(1), stay(2, 2)), 2, [][]api.Move{{evict(1), place(2, 1)}}},
		{"another one must go first, and Prios forbid to preempt", yard([]uint64{3}, over(2, 3, 1), over(2, 2, 0)), granted(1, 0, stay(2, 2)), 2, [][]api.Move{{evict(1), place(2, 1)}}},
		{"too few, if it went first", as(roll, api.Load{Min: 1, Max: 2}), wants(leave(1), stay(2, 2)), 2, [][]api.Move{{place(2, 2), evict(1)}}},
		{"too many, if it went last", as(roll, api.Load{Max: 1}), wants(leave(1), stay(2, 2)), 2, [][]api.Move{{evict(1), place(2, 1)}, {evict(1), place(2, 2)}}},
		{"zones too unlike, if the first came first", as(yard([]uint64{1, 1, 0}, pod(1, 1), pod(1, 2)), api.Load{Skew: 1, Max: 2}), wants(leave(1), leave(2)), 2, nil},
		{"apart: at the other node alone", as(yard([]uint64{9, 2}, pod(1, 1), pod(2, 2), pod(3, 0)), api.Load{Apart: true, Max: 3}), wants(stay(3, 3)), 2, [][]api.Move{{evict(1), place(3, 1)}}},
		{"one goes aside", aside, granted(0, 1, stay(1, 2), stay(2, 4)), 2, [][]api.Move{{shift(1, 2), place(2, 1)}}},
		{"one is preempted, and comes back later", yard([]uint64{4, 3}, pod(2, 1), over(1, 4, 0)), granted(1, 0, stay(1, 2), stay(2, 4)), 2, [][]api.Move{{preempt(2, 1, 1), place(1, 2)}}},
		{"one goes, and comes back later", aside, wants(stay(1, 2), stay(2, 4)), 3, [][]api.Move{
			{evict(1), place(2, 1), place(1, 2)}, {evict(1), place(1, 2), place(2, 1)},
		}},
		{"two change places by one Shift", swap, granted(0, 1, stay(1, 2), stay(2, 3)), 3, [][]api.Move{
			{evict(1), shift(2, 1), place(1, 2)}, {evict(2), shift(1, 2), place(2, 1)},
		}},
		{"two change places", swap, wants(stay(1, 2), stay(2, 3)), 4, nil},
		{"two change places over a third node", yard([]uint64{3, 2, 2}, pod(2, 1), pod(2, 2)), granted(0, 2, stay(1, 2), stay(2, 3)), 2, [][]api.Move{{shift(1, 3), shift(2, 1)}}},
		{"two change places over a third node, and never too few", as(yard([]uint64{3, 2, 2}, pod(2, 1), pod(2, 2)), api.Load{Min: 2, Max: 2}), granted(0, 2, stay(1, 2), stay(2, 3)), 2, [][]api.Move{{shift(1, 3), shift(2, 1)}}},
		{"three Places", three, wants(stay(1, 1), stay(2, 1), stay(3, 1)), 3, nil},
		{"three Places of other Reqs, which have room by then", yard([]uint64{3}, pod(9, 0), pod(9, 0), pod(9, 0)), wants(stay(1, 1), stay(2, 1), stay(3, 1)), 3, nil},
		{"six Preempts of two", yard([]uint64{2, 2, 2}, pod(2, 1), pod(2, 2), pod(2, 3), over(1, 2, 0), over(1, 2, 0), over(1, 2, 0)),
			granted(3, 0, leave(1), leave(2), leave(3), stay(4, 2), stay(5, 2), stay(6, 2)), 3, nil},
		{"six of which two alone may preempt", yard([]uint64{2, 2, 2}, pod(2, 1), pod(2, 2), pod(2, 3), over(1, 2, 0), over(1, 2, 0), over(1, 2, 0)),
			granted(2, 0, leave(1), leave(2), leave(3), stay(4, 2), stay(5, 2), stay(6, 2)), 4, nil},
	}
}

// ofMetAgain are clusters where several ways lead to a state, and a plan of so
// many moves goes by one of them alone: with the others, of which some are gone
// first, too little is left of what is told.
func ofMetAgain() []sample {
	// Pod 1 comes to node 2 and pod 2 to node 1: by the nearer way pod 1 goes, and
	// preempts pod 2, so that for a while fewer wants are met than at first.
	moves := as(yard([]uint64{5, 3}, over(2, 2, 1), pod(1, 2), over(2, 1, 2)), api.Load{Min: 2, Max: 4})
	// Pod 2 comes to node 1, and pod 3 to node 2: pod 3 may come first, to node 1,
	// so that more wants are met at first, but it must give way to pod 1 later.
	both := as(yard([]uint64{5, 2}, pod(1, 1), pod(1, 2), pod(1, 0)), api.Load{Min: 2, Max: 4})
	// Pod 2 comes to node 2, by a Shift, or by an Evict and a Place: pod 1 may not
	// go, so the Shift must be left for it.
	shifts := yard([]uint64{4, 4}, pod(3, 2), pod(1, 1), pod(1, 1))
	shifts.Loads = []api.Load{{Id: 1, Min: 1, Max: 1}, {Id: 2, Min: 1, Max: 4}}
	shifts.Pods[1].Load, shifts.Pods[2].Load = 2, 2
	// Pod 3 comes to node 1 and pod 1 to node 2, by a Preempt and a Place, or by a
	// Shift and a Place: the Preempt must be left for pod 2.
	preempts := as(yard([]uint64{3, 5}, pod(3, 1), over(1, 2, 2), over(2, 2, 0)), api.Load{Min: 2, Max: 4})
	// Pod 1 comes to node 1, and pod 2 goes, by a Preempt, or with the Preempt left
	// by a Place and an Evict: that is one move too many.
	either := as(yard([]uint64{3, 1}, over(1, 1, 0), pod(1, 1)), api.Load{Min: 1, Max: 3})
	return []sample{
		{"met again behind fewer moves", moves, granted(1, 0, stay(2, 1), stay(3, 4)), 5,
			[][]api.Move{{evict(1), preempt(1, 2, 2), place(2, 1), evict(3), place(3, 1)}}},
		{"met again behind fewer moves, and fewer Shifts", both, granted(0, 2, stay(1, 4), stay(2, 1), stay(3, 2)), 4,
			[][]api.Move{{shift(2, 1), place(3, 2), evict(1), place(1, 1)}}},
		{"met again behind fewer Shifts", shifts, granted(0, 1, stay(1, 4), stay(2, 1)), 4,
			[][]api.Move{{evict(2), place(2, 2), evict(3), shift(1, 1)}}},
		{"met again behind fewer Preempts", preempts, granted(1, 1, leave(1), stay(2, 4), stay(3, 2)), 4, nil},
		{"met again behind more moves", either, granted(1, 1, leave(1), stay(2, 2)), 3,
			[][]api.Move{{preempt(1, 1, 2), place(2, 1), evict(1)}}},
	}
}

// ofNone are clusters where no plan leads to what is wanted, however long.
func ofNone() []sample {
	pair := yard([]uint64{3}, pod(3, 1), over(2, 2, 0))
	return []sample{
		{"more than any node has", yard([]uint64{4, 3}, pod(2, 1)), granted(9, 9, stay(1, 5)), never, nil},
		{"more than any node has, of one that is nowhere", yard([]uint64{4, 3}, pod(2, 0)), wants(stay(1, 5)), never, nil},
		{"more than any node has, of one of many", yard([]uint64{4, 3}, pod(2, 1), pod(1, 2), pod(1, 0)), granted(2, 2, leave(1), stay(2, 4), stay(3, 4)), never, nil},
		{"room for one of two", yard([]uint64{3}, pod(2, 1), pod(2, 0)), granted(9, 9, stay(1, 2), stay(2, 2)), never, nil},
		{"apart, at one node", as(yard([]uint64{9}, pod(2, 1), pod(2, 0)), api.Load{Apart: true, Max: 9}), wants(stay(1, 2), stay(2, 2)), never, nil},
		{"two in one zone", as(yard([]uint64{9, 0}, pod(2, 1), pod(2, 0)), api.Load{Skew: 1, Max: 9}), wants(stay(1, 2), stay(2, 2)), never, nil},
		{"too few, if it goes", as(pair, api.Load{Min: 1, Max: 9}), granted(0, 9, leave(1)), never, nil},
		{"too many, if it comes", as(yard([]uint64{9}, pod(1, 1), pod(1, 0)), api.Load{Min: 1, Max: 1}), granted(9, 9, stay(1, 1), stay(2, 1)), never, nil},
		{"neither more nor fewer, and no Preempt", as(pair, api.Load{Min: 1, Max: 1}), granted(0, 9, stay(2, 2)), never, nil},
		{"neither more nor fewer, and no Prio", as(yard([]uint64{3}, over(2, 3, 1), over(2, 2, 0)), api.Load{Min: 1, Max: 1}), granted(9, 9, stay(2, 2)), never, nil},
		{"another Req, which can't come, for one may not go", as(yard([]uint64{9, 0}, pod(1, 1)), api.Load{Min: 1, Max: 1}), granted(9, 9, stay(1, 2)), never, nil},
		{"another Req, and no Shift", as(yard([]uint64{9, 9}, pod(1, 1)), api.Load{Min: 1, Max: 1}), granted(9, 0, stay(1, 2)), never, nil},
		{"two change places, and neither may go", as(yard([]uint64{3, 2}, pod(2, 1), pod(2, 2)), api.Load{Min: 2, Max: 2}), granted(9, 9, stay(1, 2), stay(2, 3)), never, nil},
	}
}

func all() []sample { return slices.Concat(met(), ofOne(), ofMore(), ofMetAgain(), ofNone()) }

func TestTheSamples(t *testing.T) {
	for _, c := range all() {
		if err := cluster.Fair(c.s, c.x); err != nil {
			t.Errorf("%s: %v", c.name, err)
		}
		if err := safe.Why(c.s, c.x, state.First(c.s)); err != nil {
			t.Errorf("%s: %v", c.name, err)
		}
		if least := fewest(c.s, c.x, 7); least != c.least {
			t.Errorf("%s: it takes %d moves, not %d", c.name, least, c.least)
		}
		for _, l := range c.due {
			if why := noPlan(c.s, c.x, c.least, l); why != "" {
				t.Errorf("%s: %v: %s", c.name, l, why)
			}
		}
	}
}

// The document's example: no wants, a safe snapshot.
func TestTheExample(t *testing.T) { // P19.1
	s := yard([]uint64{9, 9}, pod(2, 1), pod(3, 0))
	for _, depth := range []int{0, 1, 40} {
		for _, steps := range []int{0, 1, 200_000} {
			v, err := Plan(s, api.Spec{}, depth, steps)
			if err != nil || v.Kind != api.Found || len(v.Moves) > 0 || v.Steps != 0 {
				t.Errorf("depth %d, steps %d: %v, %v", depth, steps, v, err)
			}
		}
	}
}

func TestAllWantsAreMetAtOnce(t *testing.T) { // P19.1
	for _, c := range met() {
		for _, depth := range []int{0, 1, 2, 39, 40} {
			for _, steps := range []int{0, 1, 2, 199_999, 200_000} {
				v := told(t, c.name, c.s, c.x, depth, steps, 0)
				if v.Kind != api.Found || len(v.Moves) > 0 || v.Steps != 0 {
					t.Errorf("%s: depth %d, steps %d: %v", c.name, depth, steps, v)
				}
			}
		}
	}
}

func TestOneMove(t *testing.T) { // P19.1, P19.3
	for _, c := range ofOne() {
		isNone(t, c.name, c.s, c.x, 0, 0)
		if v := told(t, c.name, c.s, c.x, 1, 0, 1); v.Kind != api.Spent {
			t.Errorf("%s: with no steps: %v", c.name, v)
		}
		if v := told(t, c.name, c.s, c.x, 1, 1, 1); v.Kind != api.Found || v.Steps != 1 {
			t.Errorf("%s: with one step: %v", c.name, v)
		}
		found(t, c.name, c.s, c.x, 1, 1, c.due...)
		for _, depth := range []int{2, 3, 39, 40} {
			found(t, c.name, c.s, c.x, depth, 1)
		}
	}
}

// Depths that are just enough, one too few, and more.
func TestMoreMoves(t *testing.T) { // P19.1, P19.3
	for _, c := range slices.Concat(ofMore(), ofMetAgain()) {
		for depth := range c.least {
			v := told(t, c.name, c.s, c.x, depth, api.MaxSteps, c.least)
			if v.Kind != api.None {
				t.Errorf("%s: depth %d: %v", c.name, depth, v)
			}
		}
		found(t, c.name, c.s, c.x, c.least, c.least, c.due...)
		for _, depth := range []int{c.least + 1, c.least + 2, 39, 40} {
			found(t, c.name, c.s, c.x, depth, c.least)
		}
	}
}

// What can't be met is told with few steps, at any depth: of the states few are
// there, and they come back.
func TestNone(t *testing.T) { // P19.1, P19.3
	for _, c := range ofNone() {
		for depth := range api.MaxMoves + 1 {
			isNone(t, c.name, c.s, c.x, depth, 500)
		}
	}
}

// Where all that can be done leads to and fro, no more is expanded than there
// are states.
func TestStatesThatComeBack(t *testing.T) { // P19.1
	one := yard([]uint64{2}, pod(2, 1))
	two := yard([]uint64{9, 9}, pod(2, 1), pod(2, 0), pod(9, 0))
	for _, c := range []struct {
		name  string
		s     api.Snapshot
		x     api.Spec
		steps int
	}{
		{"there, and nowhere, where it can't come back from", one, granted(9, 9, stay(1, 3)), 2},
		{"there, and nowhere", yard([]uint64{2}, pod(2, 1), pod(3, 0)), granted(9, 9, stay(2, 3)), 2},
		{"at one of two nodes, or nowhere", yard([]uint64{2, 2}, pod(2, 1), pod(3, 0)), granted(40, 0, stay(2, 3)), 3},
		{"two, each at one of two nodes, or nowhere", two, granted(40, 0, stay(3, 99)), 9},
		{"budgets that are never used up", two, granted(40, 40, stay(3, 99)), 9},
	} {
		isNone(t, c.name, c.s, c.x, api.MaxMoves, c.steps)
	}
}

// An error of cluster.Fair is told as it is, ahead of what is too large, and with
// nothing in the verdict.
func TestFairFirst(t *testing.T) { // P19.1, R1, R3
	type change func(s *api.Snapshot, x *api.Spec)
	for _, c := range []struct {
		name   string
		change change
		due    error
	}{
		{"no nodes", func(s *api.Snapshot, _ *api.Spec) { s.Nodes = nil }, api.ErrLarge},
		{"too many nodes", func(s *api.Snapshot, _ *api.Spec) { s.Nodes = make([]api.Node, 9) }, api.ErrLarge},
		{"too many loads", func(s *api.Snapshot, _ *api.Spec) { s.Loads = make([]api.Load, 9) }, api.ErrLarge},
		{"too many pods", func(s *api.Snapshot, _ *api.Spec) { s.Pods = make([]api.Pod, 13) }, api.ErrLarge},
		{"a node of Id 0", func(s *api.Snapshot, _ *api.Spec) { s.Nodes[0].Id = 0 }, &api.Spot{At: 0, Err: api.ErrArg}},
		{"a node twice", func(s *api.Snapshot, _ *api.Spec) { s.Nodes[1].Id = 1 }, &api.Spot{At: 1, Err: api.ErrTwice}},
		{"a load that may not be", func(s *api.Snapshot, _ *api.Spec) { s.Loads[0].Max = 101 }, &api.Spot{At: 2, Err: api.ErrArg}},
		{"a pod of no load", func(s *api.Snapshot, _ *api.Spec) { s.Pods[1].Load = 2 }, &api.Spot{At: 4, Err: api.ErrNone}},
		{"a pod at no node", func(s *api.Snapshot, _ *api.Spec) { s.Pods[0].Node = 3 }, &api.Spot{At: 3, Err: api.ErrNone}},
		{"too many Preempts", func(_ *api.Snapshot, x *api.Spec) { x.Preempts = 41 }, api.ErrLarge},
		{"Shifts below 0", func(_ *api.Snapshot, x *api.Spec) { x.Shifts = -1 }, api.ErrLarge},
		{"a want twice", func(_ *api.Snapshot, x *api.Spec) { x.Wants[1].Pod = 1 }, &api.Spot{At: 1, Err: api.ErrTwice}},
		{"a want of no pod", func(_ *api.Snapshot, x *api.Spec) { x.Wants[1].Pod = 3 }, &api.Spot{At: 1, Err: api.ErrNone}},
		{"a want to leave, with a Req", func(_ *api.Snapshot, x *api.Spec) { x.Wants[0] = api.Want{Pod: 1, Req: api.Vec{1}} }, &api.Spot{At: 0, Err: api.ErrArg}},
		{"a snapshot that isn't safe, either", func(s *api.Snapshot, _ *api.Spec) { s.Pods[0].Req[0], s.Pods[1].Prio = 99, -1 }, &api.Spot{At: 4, Err: api.ErrArg}},
	} {
		t.Run(c.name, func(t *testing.T) {
			s, x := yard([]uint64{9, 9}, pod(2, 1), pod(3, 0)), granted(1, 1, stay(1, 2), leave(2))
			c.change(&s, &x)
			if fair := cluster.Fair(s, x); !reflect.DeepEqual(fair, c.due) {
				t.Fatalf("layer 3 tells %v, want %v", fair, c.due)
			}
			for _, depth := range []int{math.MinInt, -1, 0, 1, 40, 41, math.MaxInt} {
				for _, steps := range []int{math.MinInt, -1, 0, 1, 200_000, 200_001, math.MaxInt} {
					v, err := Plan(s, x, depth, steps)
					if !reflect.DeepEqual(err, c.due) || !reflect.DeepEqual(v, api.Verdict{}) {
						t.Errorf("depth %d, steps %d: %v, %v, want %v", depth, steps, v, err, c.due)
					}
				}
			}
		})
	}
	if _, err := Plan(api.Snapshot{}, api.Spec{}, 0, 0); err != error(api.ErrLarge) {
		t.Errorf("nothing at all: %v", err)
	}
}

func TestTooLarge(t *testing.T) { // P19.1, R3
	safe := yard([]uint64{9, 9}, pod(2, 1), pod(3, 0))
	not := yard([]uint64{9, 9}, pod(99, 1), pod(3, 0))
	for _, s := range []api.Snapshot{safe, not} {
		for _, x := range []api.Spec{{}, wants(stay(2, 3)), wants(stay(2, 10))} {
			for _, depth := range []int{math.MinInt, -2, -1, 0, 1, 39, 40, 41, 42, math.MaxInt} {
				for _, steps := range []int{math.MinInt, -2, -1, 0, 1, 199_999, 200_000, 200_001, 200_002, math.MaxInt} {
					v, err := Plan(s, x, depth, steps)
					may := 0 <= depth && depth <= 40 && 0 <= steps && steps <= 200_000
					if may && (err != nil || v.Kind == 0) {
						t.Errorf("depth %d, steps %d: %v, %v", depth, steps, v, err)
					}
					if !may && (err != error(api.ErrLarge) || !reflect.DeepEqual(v, api.Verdict{})) {
						t.Errorf("depth %d, steps %d: %v, %v", depth, steps, v, err)
					}
				}
			}
		}
	}
}

// From a first state that isn't safe nothing can be walked, not even where all
// wants are met, or a move would make it safe.
func TestNotSafe(t *testing.T) { // P19.1, P19.3
	for _, c := range []struct {
		name string
		s    api.Snapshot
		why  api.Code
	}{
		{"room", yard([]uint64{9, 2}, pod(3, 2), pod(1, 0)), api.ErrRoom},
		{"sums", yard([]uint64{9, math.MaxUint64 - 1}, pod(1<<63, 2), pod(1<<63, 2)), api.ErrOver},
		{"apart", as(yard([]uint64{9, 9}, pod(1, 2), pod(1, 2)), api.Load{Apart: true, Max: 9}), api.ErrApart},
		{"spread", as(yard([]uint64{9, 9}, pod(1, 2), pod(1, 2)), api.Load{Skew: 1, Max: 9}), api.ErrSpread},
		{"too few", as(yard([]uint64{9, 9}, pod(1, 1), pod(1, 0)), api.Load{Min: 2, Max: 9}), api.ErrFew},
		{"too many", as(yard([]uint64{9, 9}, pod(1, 1), pod(1, 1)), api.Load{Max: 1}), api.ErrMany},
	} {
		if _, _, err := step.Walk(c.s, api.Spec{}, nil); err != error(c.why) {
			t.Errorf("%s: layer 12 tells %v", c.name, err)
		}
		for _, x := range []api.Spec{{}, granted(40, 40, leave(1)), granted(40, 40, stay(2, 1))} {
			for _, depth := range []int{0, 1, 2, 40} {
				for _, steps := range []int{0, 1, 200_000} {
					v := told(t, c.name, c.s, x, depth, steps, never)
					if v.Kind != api.None || v.Steps != 0 {
						t.Errorf("%s: %v: depth %d, steps %d: %v", c.name, x, depth, steps, v)
					}
				}
			}
		}
	}
}

// With fewer steps than it takes they are all used, and that is told; with none
// nothing is expanded. With more the same is told.
func TestSpent(t *testing.T) { // P19.1
	spent := 0
	for _, c := range all() {
		for _, depth := range []int{0, 1, 2, 3, 4, 5, 40} {
			enough := told(t, c.name, c.s, c.x, depth, api.MaxSteps, c.least)
			for steps := range min(enough.Steps+2, 60) {
				due := enough
				if steps < enough.Steps {
					due = api.Verdict{Kind: api.Spent, Steps: steps}
					spent++
				}
				if v := told(t, c.name, c.s, c.x, depth, steps, c.least); !reflect.DeepEqual(v, due) {
					t.Errorf("%s: depth %d, steps %d: %v, want %v", c.name, depth, steps, v, due)
				}
			}
		}
	}
	if spent < 500 {
		t.Errorf("Spent was told %d times", spent)
	}
}

// With as many steps as there are rows of depth - 1 moves or less it is never
// Spent: of depth 0 none, of depth 1 one.
func TestNeverSpentWithStepsForAllRows(t *testing.T) { // P19.1
	held := map[int]int{}
	for _, c := range all() {
		for depth := range 8 {
			steps := rows(c.s, depth)
			if steps > api.MaxSteps {
				break
			}
			v := told(t, c.name, c.s, c.x, depth, steps, c.least)
			if v.Kind == api.Spent {
				t.Errorf("%s: depth %d, steps %d: %v", c.name, depth, steps, v)
			}
			held[depth]++
		}
	}
	if held[0] != len(all()) || held[1] != len(all()) || held[3] < 20 || held[5] < 3 {
		t.Errorf("so often by depth: %v", held)
	}
	s := yard([]uint64{9}, pod(1, 0), pod(1, 0))
	for depth, steps := range []int{0, 1, 11} { // four Places and Shifts, two Evicts, four Preempts
		if rows(s, depth) != steps {
			t.Errorf("depth %d: %d rows", depth, rows(s, depth))
		}
	}
}

// A full cluster, with the greatest Ids and budgets. What is nearest is gone to
// first, so that a long plan is found with few steps; and what can't be met isn't
// told of so many states, but the steps are used up.
func TestFullCluster(t *testing.T) { // P19.1, P19.3, P1
	s := api.Snapshot{}
	for i := range api.MaxNodes {
		s.Nodes = append(s.Nodes, api.Node{Id: api.MaxId - 9 + i, Zone: 1 + i, Cap: api.Vec{40, math.MaxUint64, 9, 9}, Held: api.Vec{1}})
		s.Loads = append(s.Loads, api.Load{Id: api.MaxId - 7 + i, Apart: i%2 == 0, Max: 12})
	}
	x := api.Spec{Preempts: api.MaxMoves, Shifts: api.MaxMoves}
	for i := range api.MaxPods {
		p := api.Pod{Id: api.MaxId - 11 + i, Load: s.Loads[(i+i/8)%8].Id, Prio: 8 * i, Req: api.Vec{uint64(9 + i), 1 << 40}}
		w := api.Want{Pod: p.Id, Stay: true, Req: p.Req}
		if i%2 == 0 {
			p.Node = s.Nodes[i%8].Id
			w = api.Want{Pod: p.Id}
		}
		s.Pods = append(s.Pods, p)
		x.Wants = append(x.Wants, w)
	}
	v := told(t, "a full one", s, x, api.MaxMoves, 100, 6)
	if v.Kind != api.Found || len(v.Moves) < 6 {
		t.Errorf("a full one: %v", v)
	}
	x.Wants[11].Req[0] = 40 // there is room for 39
	for _, steps := range []int{0, 1, 50, 400} {
		if v := told(t, "a full one, of which one can't be met", s, x, api.MaxMoves, steps, never); v.Kind != api.Spent {
			t.Errorf("a full one, of which one can't be met: %v", v)
		}
	}
}

// What a search has in mind takes no more memory than steps ask for: at most so
// many nodes are known by their keys, whatever was let go.
func TestNoMoreInMindThanSteps(t *testing.T) {
	s := yard([]uint64{9, 9, 9, 9}, pod(1, 1), pod(1, 2), pod(1, 3), pod(1, 0), pod(1, 0), pod(99, 0))
	x := granted(9, 9, stay(4, 1), stay(5, 1), stay(6, 99))
	for _, steps := range []int{0, 1, 2, 10, 100} {
		h := hunt{s: s, x: x, left: steps, met: map[string][]purse{}}
		if end := h.from(state.First(s), 9); end != nil || !h.cut || h.left != 0 || h.line.many != 0 {
			t.Errorf("%d steps: it ended at %v, cut %v, with %d left and %d in line", steps, end, h.cut, h.left, h.line.many)
		}
		many := 0
		for _, l := range h.met {
			many += len(l)
		}
		if many != steps || len(h.met) > steps {
			t.Errorf("%d steps: %d nodes by %d keys", steps, many, len(h.met))
		}
	}
}

// Nodes leave the line by rising rank: by how many moves led there, and thrice as
// many as wants aren't met; of one rank as they came. From the other end they
// leave likewise.
func TestLine(t *testing.T) {
	far := func(moves, unmet int) *node { return &node{purse: purse{moves: api.MaxMoves - moves}, unmet: unmet} }
	due := []*node{far(0, 0), far(2, 0), far(0, 1), far(4, 0), far(1, 1), far(4, 0), far(39, 12), far(40, 12)}
	came := []int{3, 6, 1, 0, 7, 4, 5, 2}
	var l line
	for range 2 {
		for _, i := range came {
			l.put(due[i])
		}
		for i, n := range due {
			if l.many != len(due)-i || l.first() != n {
				t.Errorf("%d isn't the first one", i)
			}
		}
		for _, i := range came {
			l.put(due[i])
		}
		for i, n := range slices.Backward(due) {
			if l.many != i+1 || l.last() != n {
				t.Errorf("%d isn't the last one", i)
			}
		}
		if l.many != 0 || l.first() != nil || l.last() != nil {
			t.Errorf("%d are left", l.many)
		}
	}
}

// handed is what is handed in, with something behind each list's end.
func handed() (api.Snapshot, api.Spec) {
	s := yard([]uint64{4, 3}, pod(2, 1), pod(4, 0), pod(1, 2))
	x := granted(1, 1, stay(1, 2), stay(2, 4), leave(3))
	s.Nodes = append(s.Nodes, api.Node{Id: 77, Cap: api.Vec{99, 99}})[:len(s.Nodes)]
	s.Loads = append(s.Loads, api.Load{Id: 77})[:len(s.Loads)]
	s.Pods = append(s.Pods, api.Pod{Id: 77})[:len(s.Pods)]
	x.Wants = append(x.Wants, api.Want{Pod: 77})[:len(x.Wants)]
	return s, x
}

// whole are all lists up to the ends of what they lie in.
func whole(s api.Snapshot, x api.Spec) []any {
	return []any{
		s.Nodes[:cap(s.Nodes)], s.Loads[:cap(s.Loads)], s.Pods[:cap(s.Pods)],
		x.Wants[:cap(x.Wants)], x.Preempts, x.Shifts,
	}
}

func TestHandedInStays(t *testing.T) { // P19.2, R2, R4
	s, x := handed()
	was := whole(handed())
	for _, depth := range []int{-1, 0, 1, 2, 3, 4, 40} {
		for _, steps := range []int{0, 1, 2, 5, 20, 200_000, 200_001} {
			Plan(s, x, depth, steps)
			if is := whole(s, x); !reflect.DeepEqual(is, was) {
				t.Fatalf("depth %d, steps %d: it became %v, and was %v", depth, steps, is, was)
			}
		}
	}
}

// What is told is new memory: who writes into it changes nothing that was handed
// in, nor what else was told, nor what is told next; and a later change of what
// was handed in changes nothing of what was told.
func TestWhatIsToldIsNew(t *testing.T) { // P19.2, R2, R4
	s, x := handed()
	was := whole(handed())
	v, _ := Plan(s, x, 3, 500)
	if v.Kind != api.Found || len(v.Moves) == 0 {
		t.Fatal(v)
	}
	kept := slices.Clone(v.Moves)
	other, _ := Plan(s, x, 3, 500)
	l := other.Moves[:cap(other.Moves)]
	for i := range l {
		l[i] = api.Move{Kind: -1}
	}
	if is := whole(s, x); !reflect.DeepEqual(is, was) || !slices.Equal(v.Moves, kept) {
		t.Fatalf("it became %v, %v, and was %v, %v", is, v, was, kept)
	}
	if again, err := Plan(s, x, 3, 500); err != nil || !reflect.DeepEqual(again, v) {
		t.Fatalf("%v, %v, and first %v", again, err, v)
	}
	clear(s.Nodes)
	clear(s.Loads)
	clear(s.Pods)
	clear(x.Wants)
	if !slices.Equal(v.Moves, kept) {
		t.Errorf("what was told became %v, and was %v", v.Moves, kept)
	}
}
