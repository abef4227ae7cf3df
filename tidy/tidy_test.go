package tidy

import (
	"math"
	"reflect"
	"slices"
	"testing"

	"dunnage/api"
	"dunnage/cluster"
	"dunnage/safe"
	"dunnage/state"
	"dunnage/step"
)

const top = math.MaxUint64

// yard is a snapshot, and a spec, that may be; its first state is safe. Pod 11
// is alone at node 2, pod 14 at node 5; pods 12 and 13 are at node 8; none is
// at node 3; pod 15 is nowhere. There is room for all everywhere.
func yard() (api.Snapshot, api.Spec, api.State) {
	s := api.Snapshot{
		Nodes: []api.Node{
			{Id: 2, Zone: 1, Cap: api.Vec{60, 60}, Held: api.Vec{10}},
			{Id: 3, Zone: 1, Cap: api.Vec{50, 50}},
			{Id: 5, Zone: 2, Cap: api.Vec{50, 50}},
			{Id: 8, Zone: 3, Cap: api.Vec{50, 50}},
		},
		Loads: []api.Load{{Id: 7, Max: 9}},
		Pods: []api.Pod{
			{Id: 11, Load: 7, Prio: 3, Req: api.Vec{4, 1}, Node: 2},
			{Id: 12, Load: 7, Prio: 1, Req: api.Vec{3, 2}, Node: 8},
			{Id: 13, Load: 7, Prio: 2, Req: api.Vec{2, 3}, Node: 8},
			{Id: 14, Load: 7, Prio: 9, Req: api.Vec{1, 4}, Node: 5},
			{Id: 15, Load: 7, Prio: 5, Req: api.Vec{5, 5}},
		},
	}
	return s, api.Spec{Preempts: 2, Shifts: 5}, state.First(s)
}

// row is nodes 1, 2 and so on, each of a zone of its own, with room for so
// much; pods 1, 2 and so on, that have 1 each, are at these nodes.
func row(capacity, nodes int, at ...int) (api.Snapshot, api.Spec, api.State) {
	s := api.Snapshot{Loads: []api.Load{{Id: 1, Max: api.MaxCount}}}
	for i := range nodes {
		s.Nodes = append(s.Nodes, api.Node{Id: 1 + i, Zone: 1 + i, Cap: api.Vec{uint64(capacity)}})
	}
	for i, node := range at {
		s.Pods = append(s.Pods, api.Pod{Id: 1 + i, Load: 1, Req: api.Vec{1}, Node: node})
	}
	return s, api.Spec{Shifts: api.MaxMoves}, state.First(s)
}

func shift(pod, node int) api.Move { return api.Move{Kind: api.Shift, Pod: pod, Node: node} }

// shifts are several, told as pod, node, pod, node, and so on.
func shifts(l ...int) []api.Move {
	var moves []api.Move
	for i := 0; i < len(l); i += 2 {
		moves = append(moves, shift(l[i], l[i+1]))
	}
	return moves
}

func cloned(t api.State) api.State {
	t.Pods = slices.Clone(t.Pods)
	return t
}

// usedAre holds Used against how many are due.
func usedAre(t *testing.T, name string, s api.Snapshot, at api.State, due int) {
	t.Helper()
	for range 2 {
		if n := Used(s, at); n != due {
			t.Errorf("%s: %d are used, want %d", name, n, due)
		}
	}
}

// proposed holds Propose against the Shifts that are due, told as pod, node,
// and so on; and each of them against layer 12, and P16.4.
func proposed(t *testing.T, name string, s api.Snapshot, x api.Spec, at api.State, due ...int) {
	t.Helper()
	for range 2 { // the second time it is told the same
		if l := Propose(s, x, at); !slices.Equal(l, shifts(due...)) {
			t.Errorf("%s: proposed are %v, want %v", name, l, shifts(due...))
		}
	}
	for _, m := range shifts(due...) {
		behind, err := step.Do(s, x, at, m)
		if err != nil || Used(s, behind) != Used(s, at)-1 {
			t.Errorf("%s: %v: %v, and %d of %d nodes are used", name, m, err, Used(s, behind), Used(s, at))
		}
	}
}

// tidied holds Tidy against the Shifts that are due, told as pod, node, and so
// on: they are done, one behind the other, each is the first proposal then, and
// behind them is the state that is told.
func tidied(t *testing.T, name string, s api.Snapshot, x api.Spec, at api.State, most int, due ...int) {
	t.Helper()
	last := cloned(at)
	for _, m := range shifts(due...) {
		if l := Propose(s, x, last); len(l) == 0 || l[0] != m {
			t.Errorf("%s: proposed are %v, and %v is due", name, l, m)
		}
		behind, err := step.Do(s, x, last, m)
		if err != nil || Used(s, behind) != Used(s, last)-1 {
			t.Errorf("%s: %v: %v, and %d of %d nodes are used", name, m, err, Used(s, behind), Used(s, last))
		}
		last = behind
	}
	for range 2 {
		got, l := Tidy(s, x, at, most)
		if !slices.Equal(l, shifts(due...)) {
			t.Errorf("%s: Tidy with most %d does %v, want %v", name, most, l, shifts(due...))
		}
		if !state.Same(got, last) {
			t.Errorf("%s: Tidy with most %d comes to %v, want %v", name, most, got, last)
		}
	}
}

func TestTheSamplesMayBe(t *testing.T) {
	for _, sample := range []func() (api.Snapshot, api.Spec, api.State){
		yard,
		func() (api.Snapshot, api.Spec, api.State) { return row(2, 8, 1, 2, 2, 3, 8, 0) },
	} {
		s, x, first := sample()
		if err := cluster.Fair(s, x); err != nil {
			t.Error(err)
		}
		if err := safe.Why(s, x, first); err != nil {
			t.Error(err)
		}
	}
}

// The document's example: pods at two nodes, one each, with room enough.
func TestTheExample(t *testing.T) { // P16.1
	s, x, first := row(2, 2, 1, 2)
	proposed(t, "room enough", s, x, first, 1, 2, 2, 1)
	usedAre(t, "room enough", s, first, 2)
	tidied(t, "room enough", s, x, first, 9, 1, 2)
	s, x, first = row(1, 2, 1, 2)
	proposed(t, "not room enough", s, x, first)
	tidied(t, "not room enough", s, x, first, 9)
}

func TestUsed(t *testing.T) { // P16.1
	for _, c := range []struct {
		name  string
		nodes []int
		at    []int
		due   int
	}{
		{"no pods", []int{1, 2, 3}, nil, 0},
		{"all are nowhere", []int{1, 2, 3}, []int{0, 0, 0}, 0},
		{"one, and the others are nowhere", []int{1, 2, 3}, []int{0, 2, 0}, 1},
		{"several at one node", []int{1, 2, 3}, []int{2, 2, 2}, 1},
		{"several at one node, and one elsewhere", []int{1, 2, 3}, []int{3, 1, 3}, 2},
		{"several at two nodes, one at a time", []int{1, 2, 3}, []int{3, 1, 3, 1, 3}, 2},
		{"one at each node", []int{1, 2, 3}, []int{3, 1, 2}, 3},
		{"each node, by turns", []int{1, 2, 3}, []int{1, 2, 3, 1, 2, 3, 0}, 3},
		{"all nodes there may be", []int{1, 2, 3, 4, 5, 6, 7, 8}, []int{8, 7, 6, 5, 4, 3, 2, 1, 8, 1, 4, 4}, 8},
		{"nodes that fall", []int{3, 2, 1}, []int{1, 3, 1}, 2},
		{"nodes of one Id", []int{2, 2}, []int{2}, 1},
		{"nodes of one Id, and several there", []int{2, 1, 2, 2}, []int{2, 2, 1, 2}, 2},
		{"nodes of one Id, and none there", []int{2, 1, 2}, []int{1}, 1},
		{"a node of Id 0", []int{0}, []int{0}, 0},
		{"a node of Id 0 among others", []int{1, 0, 2}, []int{0, 2, 0}, 1},
		{"a node of Id 0, and none is nowhere", []int{0, 1}, []int{1}, 1},
		{"a node that the snapshot doesn't have", []int{1, 2}, []int{3}, 0},
		{"a node that the snapshot doesn't have, and one that it has", []int{1, 2}, []int{3, 1, 4, 1}, 1},
		{"no nodes", nil, []int{1, 2, 0}, 0},
		{"no nodes, no pods", nil, nil, 0},
		{"Ids below 0", []int{-1, -2}, []int{-1, -2, -3}, 2},
		{"Ids far away", []int{math.MinInt, math.MaxInt, -1 << 32}, []int{math.MaxInt, math.MinInt, 1 << 32}, 2},
	} {
		t.Run(c.name, func(t *testing.T) {
			var s api.Snapshot
			for _, id := range c.nodes {
				s.Nodes = append(s.Nodes, api.Node{Id: id})
			}
			_, _, at := row(0, 0, c.at...)
			usedAre(t, "as it is", s, at, c.due)
			// Neither the snapshot's pods, nor room, nor the budgets count.
			s.Pods = []api.Pod{{Id: 1, Node: 1}, {Id: 2, Node: 2}, {Id: 9, Node: 3}}
			at.Preempts, at.Shifts = math.MaxInt, math.MinInt
			for i := range at.Pods {
				at.Pods[i].Req, at.Pods[i].Load = api.Vec{top, top, top, top}, -i
			}
			slices.Reverse(s.Nodes)
			usedAre(t, "turned", s, at, c.due)
		})
	}
	usedAre(t, "nothing at all", api.Snapshot{}, api.State{}, 0)
	usedAre(t, "empty lists", api.Snapshot{Nodes: []api.Node{}}, api.State{Pods: []api.Pod{}}, 0)
}

func TestPropose(t *testing.T) { // P16.1, P16.4
	s, x, first := yard()
	proposed(t, "the sample", s, x, first, 11, 5, 11, 8, 14, 2, 14, 8)
	usedAre(t, "the sample", s, first, 3)
	for _, c := range []struct {
		name  string
		nodes int
		at    []int
		due   []int
	}{
		{"no pods", 3, nil, nil},
		{"all are nowhere", 3, []int{0, 0}, nil},
		{"one alone: to no node that isn't used", 3, []int{2}, nil},
		{"one alone, and others that are nowhere", 3, []int{0, 2, 0}, nil},
		{"one alone, and two together", 3, []int{1, 2, 2}, []int{1, 2}},
		{"two together, and one alone", 3, []int{3, 3, 1}, []int{3, 3}},
		{"two together, and the one between alone", 3, []int{3, 1, 3}, []int{2, 3}},
		{"two together", 3, []int{2, 2}, nil},
		{"two and two", 3, []int{2, 3, 3, 2}, nil},
		{"three together, and one alone", 3, []int{2, 2, 1, 2}, []int{3, 2}},
		{"two alone", 3, []int{3, 1}, []int{1, 1, 2, 3}},
		{"three alone", 3, []int{3, 1, 2}, []int{1, 1, 1, 2, 2, 2, 2, 3, 3, 1, 3, 3}},
		{"two alone, two together, and a node that isn't used", 4, []int{4, 2, 1, 2}, []int{1, 1, 1, 2, 3, 2, 3, 4}},
		{"at a node that the snapshot doesn't have", 2, []int{3, 1}, nil},
		{"at a node that the snapshot doesn't have, ahead of others", 2, []int{9, 1, 2}, []int{2, 2, 3, 1}},
		{"at a node that the snapshot doesn't have, below 0", 2, []int{1, 2, -1}, []int{1, 2, 2, 1}},
		{"two at a node that the snapshot doesn't have", 2, []int{3, 1, 3, 2}, []int{2, 2, 4, 1}},
		{"no nodes", 0, []int{1, 2}, nil},
		{"no nodes, no pods", 0, nil, nil},
	} {
		t.Run(c.name, func(t *testing.T) {
			s, x, first := row(9, c.nodes, c.at...)
			proposed(t, "as it is", s, x, first, c.due...)
			x.Shifts = 1
			proposed(t, "with one Shift that is granted", s, x, first, c.due...)
			s.Pods = nil
			first.Preempts, first.Shifts = -1, -1
			proposed(t, "with no pods in the snapshot", s, x, first, c.due...)
			slices.Reverse(s.Nodes)
			proposed(t, "turned", s, x, first, c.due...)
		})
	}
	proposed(t, "nothing at all", api.Snapshot{}, api.Spec{}, api.State{})
}

// A Shift that layer 12 doesn't do is no proposal, whatever the reason.
func TestMovesThatCannotBeDone(t *testing.T) { // P16.1
	type change func(s *api.Snapshot, x *api.Spec, t *api.State)
	for _, c := range []struct {
		name   string
		change change
		why    api.Code // of the Shift of pod 1 to node 2; 0: it is done
		due    []int
	}{
		{"both can be done", func(*api.Snapshot, *api.Spec, *api.State) {}, 0, []int{1, 2, 2, 1}},
		{"no room at one of them", func(s *api.Snapshot, _ *api.Spec, _ *api.State) { s.Nodes[1].Cap[0]-- }, api.ErrRoom, []int{2, 1}},
		{"no room at the other one", func(s *api.Snapshot, _ *api.Spec, _ *api.State) { s.Nodes[0].Cap[0]-- }, 0, []int{1, 2}},
		{"no room beside what is held", func(s *api.Snapshot, _ *api.Spec, _ *api.State) { s.Nodes[1].Held[0]++ }, api.ErrRoom, []int{2, 1}},
		{"no room for another thing", func(_ *api.Snapshot, _ *api.Spec, t *api.State) { t.Pods[0].Req[3] = 1 }, api.ErrRoom, nil},
		{"no room for the one that comes", func(s *api.Snapshot, x *api.Spec, t *api.State) {
			s.Nodes[0].Cap[0]++
			t.Pods[0].Req[0]++
		}, api.ErrRoom, []int{2, 1}},
		{"no room for the Req that is wanted", func(_ *api.Snapshot, x *api.Spec, _ *api.State) {
			x.Wants = []api.Want{{Pod: 1, Stay: true, Req: api.Vec{3}}}
		}, api.ErrRoom, []int{2, 1}},
		{"room for the Req that is wanted alone", func(s *api.Snapshot, x *api.Spec, t *api.State) {
			s.Nodes[0].Cap[0], t.Pods[0].Req[0] = 9, 9
			x.Wants = []api.Want{{Pod: 1, Stay: true, Req: api.Vec{2}}, {Pod: 2}}
		}, 0, []int{1, 2}},
		{"a sum that goes over", func(s *api.Snapshot, _ *api.Spec, t *api.State) {
			for i := range 2 {
				s.Nodes[i].Cap[2], t.Pods[i].Req[2] = top, 1<<63
			}
		}, api.ErrOver, nil},
		{"no room at a third node", func(s *api.Snapshot, _ *api.Spec, _ *api.State) {
			s.Nodes = append(s.Nodes, api.Node{Id: 4, Zone: 2, Held: api.Vec{1}})
		}, api.ErrRoom, nil},
		{"apart", func(s *api.Snapshot, _ *api.Spec, _ *api.State) { s.Loads[0].Apart = true }, api.ErrApart, nil},
		{"apart, and of two loads", func(s *api.Snapshot, _ *api.Spec, t *api.State) {
			s.Loads[0].Apart, s.Loads[1].Apart, t.Pods[1].Load = true, true, 6
		}, 0, []int{1, 2, 2, 1}},
		{"zones", func(s *api.Snapshot, _ *api.Spec, _ *api.State) { s.Loads[0].Skew = 1 }, api.ErrSpread, nil},
		{"zones that may be so unlike", func(s *api.Snapshot, _ *api.Spec, _ *api.State) { s.Loads[0].Skew = 2 }, 0, []int{1, 2, 2, 1}},
		{"one zone", func(s *api.Snapshot, _ *api.Spec, _ *api.State) { s.Loads[0].Skew, s.Nodes[1].Zone = 1, 1 }, 0, []int{1, 2, 2, 1}},
		{"the least of a load", func(s *api.Snapshot, _ *api.Spec, _ *api.State) { s.Loads[0].Min = 3 }, api.ErrFew, nil},
		{"the least of a load, just so many", func(s *api.Snapshot, _ *api.Spec, _ *api.State) { s.Loads[0].Min = 2 }, 0, []int{1, 2, 2, 1}},
		{"the least of another load", func(s *api.Snapshot, _ *api.Spec, _ *api.State) { s.Loads[1].Min = 1 }, api.ErrFew, nil},
		{"the most of a load", func(s *api.Snapshot, _ *api.Spec, _ *api.State) { s.Loads[0].Max = 1 }, api.ErrMany, nil},
		{"the most of a load, just so many", func(s *api.Snapshot, _ *api.Spec, _ *api.State) { s.Loads[0].Max = 2 }, 0, []int{1, 2, 2, 1}},
		{"no Shifts", func(_ *api.Snapshot, x *api.Spec, _ *api.State) { x.Shifts = 0 }, api.ErrBudget, nil},
		{"no more Shifts", func(_ *api.Snapshot, x *api.Spec, t *api.State) { x.Shifts, t.Shifts = 7, 7 }, api.ErrBudget, nil},
		{"one more Shift", func(_ *api.Snapshot, x *api.Spec, t *api.State) { x.Shifts, t.Shifts = 7, 6 }, 0, []int{1, 2, 2, 1}},
		{"Shifts below 0", func(_ *api.Snapshot, x *api.Spec, _ *api.State) { x.Shifts = math.MinInt }, api.ErrBudget, nil},
		{"more Preempts than are granted", func(_ *api.Snapshot, _ *api.Spec, t *api.State) { t.Preempts = 1 }, api.ErrBudget, nil},
	} {
		t.Run(c.name, func(t *testing.T) {
			s, x, first := row(4, 2, 1, 2)
			s.Loads = append(s.Loads, api.Load{Id: 6, Max: 9})
			first.Pods[0].Req[0], first.Pods[1].Req[0] = 2, 2
			c.change(&s, &x, &first)
			_, err := step.Do(s, x, first, shift(1, 2))
			if c.why == 0 && err != nil || c.why != 0 && err != error(c.why) {
				t.Errorf("layer 12 tells %v", err)
			}
			proposed(t, c.name, s, x, first, c.due...)
			if len(c.due) == 0 {
				tidied(t, c.name, s, x, first, 9)
			} else {
				tidied(t, c.name, s, x, first, 9, c.due[:2]...)
			}
		})
	}
}

// Of the nodes that are used those alone to which the Shift can be done: at 2
// there is no room, at 3 and 7 there is one of its load already, 4 is of a zone
// that has as many of it as may be, and 6 isn't used.
func TestToEachNodeAsFarAsItCanBeDone(t *testing.T) { // P16.1
	s := api.Snapshot{
		Nodes: []api.Node{
			{Id: 1, Zone: 1, Cap: api.Vec{9}}, {Id: 2, Zone: 2, Cap: api.Vec{6}}, {Id: 3, Zone: 1, Cap: api.Vec{7}},
			{Id: 4, Zone: 2, Cap: api.Vec{9}}, {Id: 5, Zone: 1, Cap: api.Vec{7}}, {Id: 6, Zone: 1, Cap: api.Vec{9}},
			{Id: 7, Zone: 2, Cap: api.Vec{7}},
		},
		Loads: []api.Load{{Id: 1, Apart: true, Skew: 1, Max: 4}, {Id: 2, Min: 7, Max: 9}},
		Pods:  []api.Pod{{Id: 1, Load: 1, Req: api.Vec{4}, Node: 1}},
	}
	for i, node := range []int{2, 2, 3, 3, 4, 4, 5, 5, 7, 7} {
		p := api.Pod{Id: 2 + i, Load: 2, Req: api.Vec{uint64(3 * (i % 2))}, Node: node}
		if p.Id == 2 || p.Id == 4 || p.Id == 10 {
			p.Load = 1
		}
		s.Pods = append(s.Pods, p)
	}
	x, first := api.Spec{Shifts: 9}, state.First(s)
	for node, due := range map[int]error{
		2: api.ErrRoom, 3: api.ErrApart, 4: api.ErrSpread, 5: nil, 6: nil, 7: api.ErrApart,
	} {
		if _, err := step.Do(s, x, first, shift(1, node)); err != due {
			t.Errorf("to %d: layer 12 tells %v", node, err)
		}
	}
	proposed(t, "one of six", s, x, first, 1, 5)
	usedAre(t, "one of six", s, first, 6)
	tidied(t, "one of six", s, x, first, 9, 1, 5)
}

// Whatever order the nodes stand in, the proposals stand by rising Pod, then
// Node, and the first of them is done.
func TestTheNodesInAnyOrder(t *testing.T) { // P16.1, P16.2
	orders := [][]int{{}}
	for i := range 4 {
		var longer [][]int
		for _, o := range orders {
			for at := range len(o) + 1 {
				longer = append(longer, slices.Insert(slices.Clone(o), at, i))
			}
		}
		orders = longer
	}
	if len(orders) != 24 {
		t.Fatalf("%d orders", len(orders))
	}
	for _, o := range orders {
		s, x, first := yard()
		nodes := s.Nodes
		s.Nodes = nil
		for _, i := range o {
			s.Nodes = append(s.Nodes, nodes[i])
		}
		proposed(t, "the sample", s, x, first, 11, 5, 11, 8, 14, 2, 14, 8)
		tidied(t, "the sample", s, x, first, 9, 11, 5)
		first.Pods[4].Node = 3
		proposed(t, "four nodes", s, x, first, 11, 3, 11, 5, 11, 8, 14, 2, 14, 3, 14, 8, 15, 2, 15, 5, 15, 8)
		tidied(t, "four nodes", s, x, first, 9, 11, 3, 14, 3)
	}
}

// Ids of pods and nodes are ordered by their numbers, those below 0, too.
func TestIdsThatMayNotBe(t *testing.T) { // P16.1, P16.2, P1
	ids := []int{math.MinInt, -1 << 32, -3, 1, 1 << 32, math.MaxInt}
	s, x := api.Snapshot{Loads: []api.Load{{Id: 1, Max: 9}}}, api.Spec{Shifts: 9}
	var at api.State
	for i, id := range ids {
		s.Nodes = append(s.Nodes, api.Node{Id: ids[(i+2)%6]})
		at.Pods = append(at.Pods, api.Pod{Id: id, Load: 1, Node: ids[5-i]})
	}
	var due []int
	for i, pod := range ids {
		for _, node := range ids {
			if node != ids[5-i] {
				due = append(due, pod, node)
			}
		}
	}
	proposed(t, "any Ids", s, x, at, due...)
	usedAre(t, "any Ids", s, at, 6)
	tidied(t, "any Ids", s, x, at, 9, ids[0], ids[0], ids[1], ids[0], ids[2], ids[0], ids[3], ids[0], ids[4], ids[0])
	at.Pods[2].Id = 0
	x.Wants = []api.Want{{Pod: 0, Stay: true, Req: api.Vec{1}}}
	at.Pods[0].Node, at.Pods[1].Node, at.Pods[3].Node, at.Pods[4].Node = 0, 0, 0, 0
	for i := range s.Nodes {
		s.Nodes[i].Cap[0] = 1
	}
	proposed(t, "a pod of Id 0", s, x, at, 0, ids[0], ids[5], ids[3])
	tidied(t, "a pod of Id 0", s, x, at, 9, 0, ids[0])
}

// Nodes of one Id are one: each proposal is told once, and the first of them is
// the one that has room, or not.
func TestNodesOfOneId(t *testing.T) { // P16.1, P16.2, P1
	s, x, first := row(9, 3, 1, 2)
	for i := range s.Nodes {
		s.Nodes = append(s.Nodes, s.Nodes[i])
	}
	proposed(t, "each twice", s, x, first, 1, 2, 2, 1)
	usedAre(t, "each twice", s, first, 2)
	tidied(t, "each twice", s, x, first, 9, 1, 2)
	s.Nodes[2].Id, s.Nodes[5].Id = 1, 2
	proposed(t, "three times", s, x, first, 1, 2, 2, 1)
	first.Pods = append(first.Pods, api.Pod{Id: 3, Load: 1, Node: 2})
	proposed(t, "two there", s, x, first, 1, 2)
	s.Nodes[1].Cap[0] = 1
	proposed(t, "no room at the first one", s, x, first)
	tidied(t, "no room at the first one", s, x, first, 9)
	s.Nodes[1].Cap[0], s.Nodes[4].Cap[0], s.Nodes[5].Cap[0] = 9, 0, 0
	proposed(t, "no room at the others", s, x, first, 1, 2)
	s.Nodes = []api.Node{{Id: 1, Cap: api.Vec{9}}, {Id: 1, Cap: api.Vec{9}}}
	first.Pods = first.Pods[:1]
	proposed(t, "to another one of its Id", s, x, first)
	usedAre(t, "to another one of its Id", s, first, 1)
}

// A node of Id 0 is never used, though layer 12 shifts there: nobody goes there,
// and who is nowhere isn't alone there.
func TestNodesOfId0(t *testing.T) { // P16.1, P16.2, P1
	s, x, first := row(9, 3, 1, 3, 0)
	s.Nodes[1].Id = 0
	if _, err := step.Do(s, x, first, shift(1, 0)); err != nil {
		t.Errorf("layer 12 tells %v", err)
	}
	proposed(t, "one is nowhere", s, x, first, 1, 3, 2, 1)
	usedAre(t, "one is nowhere", s, first, 2)
	tidied(t, "one is nowhere", s, x, first, 9, 1, 3)
	first.Pods[1].Node = 0
	proposed(t, "two are nowhere", s, x, first)
	usedAre(t, "two are nowhere", s, first, 1)
	first.Pods[0].Node = 0
	proposed(t, "all are nowhere", s, x, first)
	usedAre(t, "all are nowhere", s, first, 0)
	tidied(t, "all are nowhere", s, x, first, 9)
	first.Pods[0].Node, first.Pods[1].Node, first.Pods[2].Node = 1, 1, 3
	proposed(t, "none is nowhere", s, x, first, 3, 1)
	tidied(t, "none is nowhere", s, x, first, 9, 3, 1)
}

func TestTidy(t *testing.T) { // P16.2, P16.4
	s, x, first := row(9, 8, 7, 2, 4, 4, 1, 8)
	due := []int{1, 1, 2, 1, 6, 1}
	for most, many := range map[int]int{
		math.MinInt: 0, -8: 0, -1: 0, 0: 0, 1: 1, 2: 2, 3: 3, 4: 3, 7: 3, 8: 3, 9: 3, 40: 3, math.MaxInt: 3,
	} {
		tidied(t, "three can be done", s, x, first, most, due[:2*many]...)
	}
	x.Shifts = 2
	tidied(t, "two are granted", s, x, first, 9, due[:4]...)
	tidied(t, "two are granted, and one is asked for", s, x, first, 1, due[:2]...)
	first.Shifts = 1
	tidied(t, "two are granted, and one was used", s, x, first, 9, due[:2]...)
	first.Shifts = 2
	tidied(t, "two are granted, and were used", s, x, first, 9)
	first.Shifts, x.Shifts = -3, 0
	tidied(t, "none are granted, and fewer were used", s, x, first, 9, due...)
}

// Tidy ends when there is no proposal left: behind it none is.
func TestTidyToTheEnd(t *testing.T) { // P16.2
	for _, at := range [][]int{
		{}, {0}, {1}, {1, 2}, {1, 2, 3}, {3, 2, 1, 4}, {1, 1, 2}, {8, 7, 6, 5, 4, 3, 2, 1},
		{2, 3, 2, 3, 4, 5, 0, 8}, {1, 1, 2, 2, 3, 3, 4, 4, 5}, {9, 1, 2, 9}, {1, 9},
	} {
		for capacity := range 4 {
			s, x, first := row(capacity, 8, at...)
			ends, l := Tidy(s, x, first, api.MaxNodes)
			proposed(t, "the end", s, x, ends)
			tidied(t, "the end", s, x, ends, 9)
			if Used(s, ends) != Used(s, first)-len(l) || ends.Shifts != len(l) {
				t.Errorf("%v, room for %d: %v, and %d of %d nodes are used", at, capacity, l, Used(s, ends), Used(s, first))
			}
		}
	}
}

// MaxNodes at most, though more could be done, in a snapshot that may not be.
func TestMaxNodesAtMost(t *testing.T) { // P16.2, P1
	s, x, first := row(20, 12, 12, 11, 10, 9, 8, 7, 6, 5, 4, 3, 2, 1)
	due := []int{1, 1, 2, 1, 3, 1, 4, 1, 5, 1, 6, 1, 7, 1, 8, 1}
	for most, many := range map[int]int{-9: 0, 0: 0, 1: 1, 7: 7, 8: 8, 9: 8, 10: 8, 11: 8, 12: 8, 40: 8, math.MaxInt: 8} {
		tidied(t, "twelve nodes", s, x, first, most, due[:2*many]...)
	}
	ends, _ := Tidy(s, x, first, 12)
	proposed(t, "four are left", s, x, ends, 9, 1, 9, 2, 9, 3, 10, 1, 10, 2, 10, 4, 11, 1, 11, 3, 11, 4)
	usedAre(t, "four are left", s, ends, 4)
	tidied(t, "three more", s, x, ends, 12, 9, 1, 10, 1, 11, 1)
}

// The first move makes another one possible: with it zone 1 has fewer of the
// load than zone 2.
func TestOneMoveMakesAnotherOnePossible(t *testing.T) { // P16.2
	s := api.Snapshot{
		Nodes: []api.Node{
			{Id: 1, Zone: 1, Cap: api.Vec{9}}, {Id: 2, Zone: 1, Cap: api.Vec{2}},
			{Id: 3, Zone: 2, Cap: api.Vec{1}}, {Id: 4, Zone: 2, Cap: api.Vec{3}},
		},
		Loads: []api.Load{{Id: 1, Skew: 1, Max: 9}, {Id: 2, Max: 9}},
		Pods: []api.Pod{
			{Id: 1, Load: 1, Req: api.Vec{3}, Node: 1},
			{Id: 2, Load: 1, Req: api.Vec{1}, Node: 2},
			{Id: 3, Load: 1, Req: api.Vec{1}, Node: 3},
			{Id: 4, Load: 2, Node: 4},
			{Id: 5, Load: 2, Node: 4},
		},
	}
	x := api.Spec{Shifts: 9}
	first := state.First(s)
	if _, err := step.Do(s, x, first, shift(3, 2)); err != error(api.ErrSpread) {
		t.Errorf("ahead of it: %v", err)
	}
	proposed(t, "ahead of it", s, x, first, 1, 4, 2, 1, 2, 4, 3, 4)
	tidied(t, "one", s, x, first, 1, 1, 4)
	behind, _ := Tidy(s, x, first, 1)
	proposed(t, "behind it", s, x, behind, 3, 2)
	tidied(t, "all", s, x, first, 9, 1, 4, 3, 2)
}

// The first move takes the next one away: it takes the room, it empties the
// node, it uses up the Shifts, or two are together then.
func TestOneMoveTakesTheNextAway(t *testing.T) { // P16.2
	s, x, first := row(2, 3, 1, 2, 3)
	proposed(t, "room", s, x, first, 1, 2, 1, 3, 2, 1, 2, 3, 3, 1, 3, 2)
	tidied(t, "room, and the node", s, x, first, 9, 1, 2)
	s, x, first = row(3, 4, 1, 2, 3, 3)
	s.Nodes[0].Cap[0], s.Nodes[1].Cap[0] = 1, 1
	proposed(t, "room alone", s, x, first, 1, 3, 2, 3)
	tidied(t, "room alone", s, x, first, 9, 1, 3)
	s.Nodes[2].Cap[0] = 4
	tidied(t, "room for both", s, x, first, 9, 1, 3, 2, 3)
	x.Shifts = 1
	tidied(t, "the Shifts", s, x, first, 9, 1, 3)
	x.Shifts = 9
	s.Loads = append(s.Loads, api.Load{Id: 2, Apart: true, Max: 9})
	first.Pods[0].Load, first.Pods[1].Load = 2, 2
	proposed(t, "apart", s, x, first, 1, 3, 2, 3)
	tidied(t, "apart", s, x, first, 9, 1, 3)
	// Behind the first move the next proposal of the first state, 1 to 3, is
	// one of a pod that isn't alone any more.
	s, x, first = row(9, 4, 1, 2, 3, 4)
	tidied(t, "not alone any more", s, x, first, 9, 1, 2, 3, 2, 4, 2)
}

// Without a proposal the state is as it was, and there are no moves, also if
// the state isn't safe.
func TestTidyWithoutAProposal(t *testing.T) { // P16.2
	s, x, first := row(9, 3, 2, 2, 2, 0)
	first.Preempts, first.Shifts = 1, 2
	tidied(t, "three together", s, x, first, 9)
	s, x, first = row(9, 3, 1, 2)
	first.Shifts = x.Shifts + 1
	tidied(t, "more Shifts than are granted", s, x, first, 9)
	s, x, first = row(9, 3, 4, 4, 5, 1)
	tidied(t, "at nodes that the snapshot doesn't have", s, x, first, 9)
	tidied(t, "no nodes", api.Snapshot{}, x, first, 9)
	tidied(t, "no pods", s, x, api.State{Preempts: -1, Shifts: 3}, 9)
	tidied(t, "an empty list of pods", s, x, api.State{Pods: []api.Pod{}}, 9)
	tidied(t, "nothing at all", api.Snapshot{}, api.Spec{}, api.State{}, 9)
	tidied(t, "nothing at all", api.Snapshot{}, api.Spec{}, api.State{}, math.MinInt)
}

// A pod that is shifted has the Req of its want with Stay, in the state that is
// told, and for those behind it.
func TestReqsThatAreWanted(t *testing.T) { // P16.2
	s, x, first := row(5, 3, 1, 2, 3)
	x.Wants = []api.Want{{Pod: 1, Stay: true, Req: api.Vec{4}}, {Pod: 2}, {Pod: 3, Stay: true, Req: api.Vec{2}}}
	tidied(t, "wants", s, x, first, 9, 1, 2)
	behind, _ := Tidy(s, x, first, 9)
	if behind.Pods[0].Req != (api.Vec{4}) || behind.Pods[1].Req != (api.Vec{1}) || behind.Pods[2].Req != (api.Vec{1}) {
		t.Errorf("the Reqs are %v", behind)
	}
	x.Wants[0].Req[0] = 2
	tidied(t, "lesser wants", s, x, first, 9, 1, 2, 3, 2)
}

// A state that isn't safe is left alone, unless a Shift makes it safe.
func TestStatesThatAreNotSafe(t *testing.T) { // P16.1, P16.2
	s, x, first := row(9, 3, 1, 2, 3, 3)
	s.Nodes[0].Cap[0] = 0
	proposed(t, "too little room for the one that goes", s, x, first, 1, 2, 1, 3)
	tidied(t, "too little room for the one that goes", s, x, first, 9, 1, 2)
	s.Nodes[2].Cap[0] = 1
	proposed(t, "too little room for those that stay, too", s, x, first)
	tidied(t, "too little room for those that stay, too", s, x, first, 9)
}

// Of states whose pods' Ids don't rise nothing is promised but that each call
// ends, tells the same again, and changes nothing.
func TestPodsThatMayNotBe(t *testing.T) { // P1, P16.3, R2, R4
	s, x, _ := row(9, 8)
	for which := range 4_000 {
		var at api.State
		for i := range 5 {
			k := which * (i + 3) / (i + 1)
			at.Pods = append(at.Pods, api.Pod{Id: k % 4, Load: k % 2, Req: api.Vec{1}, Node: which / (1 + 3*i) % 5})
		}
		was := cloned(at)
		l, again := Propose(s, x, at), Propose(s, x, at)
		one, moves := Tidy(s, x, at, 99)
		two, others := Tidy(s, x, at, 99)
		if !slices.Equal(l, again) || !state.Same(one, two) || !slices.Equal(moves, others) || len(moves) > api.MaxNodes {
			t.Errorf("of %v two things are told: %v, %v; %v, %v; %v, %v", at, l, again, one, two, moves, others)
		}
		usedAre(t, "again", s, at, Used(s, at))
		if !state.Same(at, was) {
			t.Errorf("%v became %v", was, at)
		}
	}
}

// Lists far longer than those that may be.
func TestLongLists(t *testing.T) { // P1
	at := make([]int, 400)
	for i := range at {
		at[i] = 1 + i%200
	}
	at[0], at[399] = 250, 199 // node 1 has one pod, node 200 has one, node 250 isn't there, node 199 has three
	s, x, first := row(9, 200, at...)
	s.Loads[0].Max = 400
	usedAre(t, "long", s, first, 200)
	l := Propose(s, x, first)
	if len(l) != 2*199 || l[0] != shift(200, 1) || l[198] != shift(200, 199) || l[199] != shift(201, 2) || l[397] != shift(201, 200) {
		t.Errorf("%d are proposed: %v", len(l), l)
	}
	tidied(t, "long", s, x, first, math.MaxInt, 200, 1)
}

// samples is what is handed in, with something behind each list's end.
func samples() (api.Snapshot, api.Spec, api.State) {
	s, x, first := yard()
	x.Wants = []api.Want{{Pod: 11, Stay: true, Req: api.Vec{3}}, {Pod: 12}, {Pod: 14, Stay: true, Req: api.Vec{4}}}
	s.Nodes = append(s.Nodes, api.Node{Id: 77, Cap: api.Vec{99, 99}})[:len(s.Nodes)]
	s.Loads = append(s.Loads, api.Load{Id: 77})[:len(s.Loads)]
	s.Pods = append(s.Pods, api.Pod{Id: 77})[:len(s.Pods)]
	x.Wants = append(x.Wants, api.Want{Pod: 77})[:len(x.Wants)]
	first.Pods = append(first.Pods, api.Pod{Id: 77, Load: 7, Node: 77})[:len(first.Pods)]
	first.Preempts, first.Shifts = 1, 2
	return s, x, first
}

// whole are all lists up to the ends of what they lie in.
func whole(s api.Snapshot, x api.Spec, t api.State) []any {
	return []any{
		s.Nodes[:cap(s.Nodes)], s.Loads[:cap(s.Loads)], s.Pods[:cap(s.Pods)],
		x.Wants[:cap(x.Wants)], x.Preempts, x.Shifts,
		t.Pods[:cap(t.Pods)], t.Preempts, t.Shifts,
	}
}

func TestHandedInStays(t *testing.T) { // P16.3, R2, R4
	turned := func() (api.Snapshot, api.Spec, api.State) { // so that sorting would be seen
		s, x, at := samples()
		slices.Reverse(s.Nodes)
		return s, x, at
	}
	s, x, at := turned()
	was := whole(turned())
	stays := func(name string) {
		t.Helper()
		if is := whole(s, x, at); !reflect.DeepEqual(is, was) {
			t.Fatalf("%s: it became %v, and was %v", name, is, was)
		}
	}
	usedAre(t, "the sample", s, at, 3)
	stays("Used")
	proposed(t, "the sample", s, x, at, 11, 5, 11, 8, 14, 2, 14, 8)
	stays("Propose")
	for most := -1; most < 10; most++ {
		Tidy(s, x, at, most)
		stays("Tidy")
	}
	tidied(t, "the sample", s, x, at, 9, 11, 5)
	stays("Tidy")
}

// spoil writes into all that a state's pods, and moves, lie in.
func spoil(at api.State, l []api.Move) {
	pods, moves := at.Pods[:cap(at.Pods)], l[:cap(l)]
	for i := range pods {
		pods[i] = api.Pod{Id: -1, Node: -1}
	}
	for i := range moves {
		moves[i] = api.Move{Kind: -1}
	}
}

// What is told is new memory: who writes into it changes nothing that was
// handed in, nor what else was told, nor what is told next.
func TestWhatIsToldIsNew(t *testing.T) { // P16.3, R2
	s, x, at := samples()
	was := whole(samples())
	for most := -1; most < 10; most++ {
		ends, moves := Tidy(s, x, at, most)
		l := Propose(s, x, at)
		dueEnds, dueMoves, due := cloned(ends), slices.Clone(moves), slices.Clone(l)
		again, others := Tidy(s, x, at, most)
		spoil(again, others)
		spoil(api.State{}, Propose(s, x, at))
		if is := whole(s, x, at); !reflect.DeepEqual(is, was) {
			t.Fatalf("with most %d: it became %v, and was %v", most, is, was)
		}
		if !state.Same(ends, dueEnds) || !slices.Equal(moves, dueMoves) || !slices.Equal(l, due) {
			t.Errorf("with most %d: %v, %v, %v became %v, %v, %v", most, dueEnds, dueMoves, due, ends, moves, l)
		}
		again, others = Tidy(s, x, at, most)
		if !state.Same(again, dueEnds) || !slices.Equal(others, dueMoves) || !slices.Equal(Propose(s, x, at), due) {
			t.Errorf("with most %d: %v, %v, and then %v, %v", most, dueEnds, dueMoves, again, others)
		}
	}
}

// A later change of what was handed in changes nothing of what was told.
func TestWhatIsToldStays(t *testing.T) { // P16.3, R2
	for most := -1; most < 10; most++ {
		s, x, at := samples()
		ends, moves := Tidy(s, x, at, most)
		l := Propose(s, x, at)
		dueEnds, dueMoves, due := cloned(ends), slices.Clone(moves), slices.Clone(l)
		spoil(at, nil)
		spoil(api.State{Pods: s.Pods}, nil)
		clear(s.Nodes)
		clear(x.Wants)
		if !state.Same(ends, dueEnds) || !slices.Equal(moves, dueMoves) || !slices.Equal(l, due) {
			t.Errorf("with most %d: %v, %v, %v became %v, %v, %v", most, dueEnds, dueMoves, due, ends, moves, l)
		}
	}
}
