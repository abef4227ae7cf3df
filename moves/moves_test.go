package moves

import (
	"math"
	"reflect"
	"slices"
	"testing"

	"dunnage/api"
	"dunnage/cluster"
	"dunnage/safe"
	"dunnage/state"
	"dunnage/step"
)

const top = math.MaxUint64

func place(pod, node int) api.Move { return api.Move{Kind: api.Place, Pod: pod, Node: node} }
func evict(pod int) api.Move       { return api.Move{Kind: api.Evict, Pod: pod} }
func shift(pod, node int) api.Move { return api.Move{Kind: api.Shift, Pod: pod, Node: node} }
func preempt(pod, node, over int) api.Move {
	return api.Move{Kind: api.Preempt, Pod: pod, Node: node, Over: over}
}

func stay(pod int, req ...uint64) api.Want {
	w := api.Want{Pod: pod, Stay: true}
	copy(w.Req[:], req)
	return w
}

func leave(pod int) api.Want { return api.Want{Pod: pod} }

// pair is a snapshot, and a spec, that may be; its first state is safe. Pod 9 is
// at node 4, pod 6 is nowhere, and above pod 9; node 2 is used by none. Both
// nodes have room for both pods.
func pair() (api.Snapshot, api.Spec, api.State) {
	s := api.Snapshot{
		Nodes: []api.Node{{Id: 2, Zone: 2, Cap: api.Vec{5}}, {Id: 4, Zone: 1, Cap: api.Vec{6}, Held: api.Vec{1}}},
		Loads: []api.Load{{Id: 1, Max: 9}, {Id: 3, Max: 9}},
		Pods:  []api.Pod{{Id: 6, Load: 1, Prio: 2, Req: api.Vec{3}}, {Id: 9, Load: 1, Prio: 1, Req: api.Vec{2}, Node: 4}},
	}
	return s, api.Spec{Preempts: 1, Shifts: 1}, state.First(s)
}

// ofPair are all moves of the pair, each of which can be done.
func ofPair() []api.Move {
	return []api.Move{place(6, 2), place(6, 4), evict(9), shift(9, 2), preempt(6, 4, 9)}
}

// but are the moves of a list but for some.
func but(l []api.Move, less ...api.Move) []api.Move {
	return slices.DeleteFunc(slices.Clone(l), func(m api.Move) bool { return slices.Contains(less, m) })
}

// crowd is a snapshot, and a spec, that may be, with pods at three of four nodes,
// and two that are nowhere; its first state is safe.
func crowd() (api.Snapshot, api.Spec, api.State) {
	s := api.Snapshot{
		Nodes: []api.Node{
			{Id: 2, Zone: 1, Cap: api.Vec{9, 9}, Held: api.Vec{1}},
			{Id: 3, Zone: 1, Cap: api.Vec{9, 9}},
			{Id: 5, Zone: 2, Cap: api.Vec{9, 9}},
			{Id: 8, Zone: 3, Cap: api.Vec{9, 9}},
		},
		Loads: []api.Load{{Id: 7, Max: 9}},
		Pods: []api.Pod{
			{Id: 11, Load: 7, Prio: 3, Req: api.Vec{1, 1}, Node: 5},
			{Id: 12, Load: 7, Prio: 1, Req: api.Vec{1, 2}, Node: 2},
			{Id: 13, Load: 7, Prio: 2, Req: api.Vec{2, 1}, Node: 8},
			{Id: 14, Load: 7, Prio: 1, Req: api.Vec{1, 1}, Node: 2},
			{Id: 15, Load: 7, Prio: 4, Req: api.Vec{1, 1}},
			{Id: 16, Load: 7, Prio: 2, Req: api.Vec{1, 2}},
		},
	}
	return s, api.Spec{Preempts: 2, Shifts: 5}, state.First(s)
}

// ofCrowd are all moves of the crowd, each of which can be done.
func ofCrowd() []api.Move {
	return []api.Move{
		place(15, 2), place(15, 3), place(15, 5), place(15, 8),
		place(16, 2), place(16, 3), place(16, 5), place(16, 8),
		evict(11), evict(12), evict(13), evict(14),
		shift(11, 2), shift(11, 3), shift(11, 8),
		shift(12, 3), shift(12, 5), shift(12, 8),
		shift(13, 2), shift(13, 3), shift(13, 5),
		shift(14, 3), shift(14, 5), shift(14, 8),
		preempt(15, 2, 12), preempt(15, 2, 14), preempt(15, 5, 11), preempt(15, 8, 13),
		preempt(16, 2, 12), preempt(16, 2, 14),
	}
}

// told holds All against the moves that are due, and Next against the states
// that layer 12 tells behind them, one by one.
func told(t *testing.T, name string, s api.Snapshot, x api.Spec, at api.State, due ...api.Move) {
	t.Helper()
	var behind []api.State
	for _, m := range due {
		b, err := step.Do(s, x, at, m)
		if err != nil {
			t.Errorf("%s: %v is due, and layer 12 tells %v", name, m, err)
		}
		behind = append(behind, b)
	}
	for range 2 { // the second time it is told the same
		if l := All(s, x, at); !slices.Equal(l, due) {
			t.Errorf("%s: all are %v, want %v", name, l, due)
		}
		if l := Next(s, x, at); !slices.EqualFunc(l, behind, state.Same) {
			t.Errorf("%s: next are %v, want %v", name, l, behind)
		}
	}
}

// far holds Far against what is due.
func far(t *testing.T, name string, x api.Spec, at api.State, due int) {
	t.Helper()
	for range 2 {
		if n := Far(x, at); n != due {
			t.Errorf("%s: it is far by %d, want %d", name, n, due)
		}
	}
	if n := Far(x, at); (n == 0) != state.Goal(x, at) {
		t.Errorf("%s: it is far by %d, and layer 5 tells %v", name, n, state.Goal(x, at))
	}
}

func cloned(t api.State) api.State {
	t.Pods = slices.Clone(t.Pods)
	return t
}

func TestTheSamplesMayBe(t *testing.T) {
	for _, sample := range []func() (api.Snapshot, api.Spec, api.State){pair, crowd} {
		s, x, first := sample()
		if err := cluster.Fair(s, x); err != nil {
			t.Error(err)
		}
		if err := safe.Why(s, x, first); err != nil {
			t.Error(err)
		}
	}
}

// The document's example: no pods, none.
func TestTheExample(t *testing.T) { // P18.1
	s, x, _ := crowd()
	told(t, "no pods", s, x, api.State{})
	told(t, "an empty list of pods", s, x, api.State{Pods: []api.Pod{}})
	s.Pods = nil
	told(t, "no pods in the snapshot, too", s, x, state.First(s))
	told(t, "nothing at all", api.Snapshot{}, api.Spec{}, api.State{})
}

// Without nodes a pod that is somewhere can go, and that is all.
func TestNoNodes(t *testing.T) { // P18.1
	s, x, first := pair()
	s.Nodes = nil
	told(t, "one is nowhere, one somewhere", s, x, first, evict(9))
	first.Pods[1].Node = 0
	told(t, "both are nowhere", s, x, first)
	first.Pods[0].Node, first.Pods[1].Node = 7, 4
	told(t, "both are somewhere", s, x, first, evict(6), evict(9))
	told(t, "an empty list", api.Snapshot{Nodes: []api.Node{}}, x, first, evict(6), evict(9))
}

func TestOnePod(t *testing.T) { // P18.1
	s, x, first := pair()
	for _, c := range []struct {
		name string
		node int
		due  []api.Move
	}{
		{"nowhere", 0, []api.Move{place(6, 2), place(6, 4)}},
		{"at the first node", 2, []api.Move{evict(6), shift(6, 4)}},
		{"at the second node", 4, []api.Move{evict(6), shift(6, 2)}},
		{"at a node that the snapshot doesn't have", 3, []api.Move{evict(6), shift(6, 2), shift(6, 4)}},
		{"at a node that the snapshot doesn't have, below 0", -1, []api.Move{evict(6), shift(6, 2), shift(6, 4)}},
	} {
		t.Run(c.name, func(t *testing.T) {
			at := api.State{Pods: slices.Clone(first.Pods[:1])}
			at.Pods[0].Node = c.node
			told(t, c.name, s, x, at, c.due...)
			s.Pods = nil
			told(t, c.name+", of a snapshot without pods", s, x, at, c.due...)
			turned := s
			turned.Nodes = []api.Node{s.Nodes[1], s.Nodes[0]}
			told(t, c.name+", of nodes that fall", turned, x, at, c.due...)
		})
	}
}

// Each of the four Kinds is among what is told, and is missing where layer 12
// doesn't do it, whatever the reason.
func TestEachKindAndWhereItIsMissing(t *testing.T) { // P18.1, P18.4
	type change func(s *api.Snapshot, x *api.Spec, t *api.State)
	all := ofPair()
	for _, c := range []struct {
		name    string
		change  change
		why     api.Code // of the first one that is missing
		missing []api.Move
	}{
		{"all", func(*api.Snapshot, *api.Spec, *api.State) {}, 0, nil},
		{"no room at 2", func(s *api.Snapshot, _ *api.Spec, _ *api.State) { s.Nodes[0].Cap[0] = 1 }, api.ErrRoom, []api.Move{place(6, 2), shift(9, 2)}},
		{"room at 2 for the lesser one", func(s *api.Snapshot, _ *api.Spec, _ *api.State) { s.Nodes[0].Cap[0] = 2 }, api.ErrRoom, []api.Move{place(6, 2)}},
		{"room at 4 for one of them", func(s *api.Snapshot, _ *api.Spec, _ *api.State) { s.Nodes[1].Cap[0] = 5 }, api.ErrRoom, []api.Move{place(6, 4)}},
		{"room at 4 for the lesser one", func(s *api.Snapshot, _ *api.Spec, _ *api.State) { s.Nodes[1].Held[0] = 4 }, api.ErrRoom, []api.Move{place(6, 4), preempt(6, 4, 9)}},
		{"no room for another thing", func(_ *api.Snapshot, _ *api.Spec, t *api.State) { t.Pods[0].Req[3] = 1 }, api.ErrRoom, []api.Move{place(6, 2), place(6, 4), preempt(6, 4, 9)}},
		{"no room for the Req that is wanted", func(_ *api.Snapshot, x *api.Spec, _ *api.State) { x.Wants = []api.Want{stay(9, 6)} }, api.ErrRoom, []api.Move{shift(9, 2)}},
		{"room for the Req that is wanted alone", func(_ *api.Snapshot, x *api.Spec, t *api.State) {
			t.Pods[0].Req, x.Wants = api.Vec{9, 9}, []api.Want{stay(6, 3), leave(9)}
		}, 0, nil},
		{"sums that go over", func(s *api.Snapshot, _ *api.Spec, t *api.State) {
			s.Nodes[0].Cap[2], s.Nodes[1].Cap[2] = top, top
			t.Pods[0].Req[2], t.Pods[1].Req[2] = 1<<63, 1<<63
		}, api.ErrOver, []api.Move{place(6, 4)}},
		{"two that may not be together", func(s *api.Snapshot, _ *api.Spec, _ *api.State) { s.Loads[0].Apart = true }, api.ErrApart, []api.Move{place(6, 4)}},
		{"two of two loads", func(s *api.Snapshot, _ *api.Spec, t *api.State) {
			s.Loads[0].Apart, s.Loads[1].Apart, t.Pods[1].Load = true, true, 3
		}, 0, nil},
		{"zones too unlike", func(s *api.Snapshot, _ *api.Spec, _ *api.State) { s.Loads[0].Skew = 1 }, api.ErrSpread, []api.Move{place(6, 4)}},
		{"too few", func(s *api.Snapshot, _ *api.Spec, _ *api.State) { s.Loads[0].Min = 1 }, api.ErrFew, []api.Move{evict(9)}},
		{"too few, of two loads", func(s *api.Snapshot, _ *api.Spec, t *api.State) { s.Loads[0].Min, t.Pods[0].Load = 1, 3 }, api.ErrFew, []api.Move{evict(9), preempt(6, 4, 9)}},
		{"too few, as it is", func(s *api.Snapshot, _ *api.Spec, _ *api.State) { s.Loads[0].Min = 2 }, api.ErrFew, []api.Move{evict(9), shift(9, 2), preempt(6, 4, 9)}},
		{"too few, whatever is done", func(s *api.Snapshot, _ *api.Spec, _ *api.State) { s.Loads[0].Min = 3 }, api.ErrFew, all},
		{"too many", func(s *api.Snapshot, _ *api.Spec, _ *api.State) { s.Loads[0].Max = 1 }, api.ErrMany, []api.Move{place(6, 2), place(6, 4)}},
		{"too many, of two loads", func(s *api.Snapshot, _ *api.Spec, t *api.State) { s.Loads[0].Max, t.Pods[1].Load = 0, 3 }, api.ErrMany, []api.Move{place(6, 2), place(6, 4), preempt(6, 4, 9)}},
		{"too many, as it is", func(s *api.Snapshot, _ *api.Spec, _ *api.State) { s.Loads[0].Max = 0 }, api.ErrMany, but(all, evict(9))},
		{"a Prio that is the same", func(_ *api.Snapshot, _ *api.Spec, t *api.State) { t.Pods[0].Prio = 1 }, api.ErrPrio, []api.Move{preempt(6, 4, 9)}},
		{"a Prio that is less", func(_ *api.Snapshot, _ *api.Spec, t *api.State) { t.Pods[1].Prio = 3 }, api.ErrPrio, []api.Move{preempt(6, 4, 9)}},
		{"no Preempts", func(_ *api.Snapshot, x *api.Spec, _ *api.State) { x.Preempts = 0 }, api.ErrBudget, []api.Move{preempt(6, 4, 9)}},
		{"no more Preempts", func(_ *api.Snapshot, x *api.Spec, t *api.State) { t.Preempts = 1 }, api.ErrBudget, []api.Move{preempt(6, 4, 9)}},
		{"no Shifts", func(_ *api.Snapshot, x *api.Spec, _ *api.State) { x.Shifts = 0 }, api.ErrBudget, []api.Move{shift(9, 2)}},
		{"no more Shifts", func(_ *api.Snapshot, x *api.Spec, t *api.State) { x.Shifts, t.Shifts = 7, 7 }, api.ErrBudget, []api.Move{shift(9, 2)}},
		{"neither of both", func(_ *api.Snapshot, x *api.Spec, _ *api.State) { *x = api.Spec{} }, api.ErrBudget, []api.Move{shift(9, 2), preempt(6, 4, 9)}},
		{"more Preempts than are granted", func(_ *api.Snapshot, _ *api.Spec, t *api.State) { t.Preempts = 2 }, api.ErrBudget, all},
		{"more Shifts than are granted", func(_ *api.Snapshot, _ *api.Spec, t *api.State) { t.Shifts = 2 }, api.ErrBudget, all},
		{"a state that isn't safe, till one goes", func(s *api.Snapshot, _ *api.Spec, t *api.State) { t.Pods[1].Req[0] = 6 }, api.ErrRoom, []api.Move{place(6, 2), place(6, 4), shift(9, 2)}},
		{"a state that isn't safe, whatever is done", func(s *api.Snapshot, _ *api.Spec, t *api.State) { s.Nodes[1].Held[1] = 1 }, api.ErrRoom, all},
	} {
		t.Run(c.name, func(t *testing.T) {
			s, x, first := pair()
			c.change(&s, &x, &first)
			for i, m := range c.missing {
				_, err := step.Do(s, x, first, m)
				if err == nil || i == 0 && err != error(c.why) {
					t.Errorf("%v: layer 12 tells %v", m, err)
				}
			}
			told(t, c.name, s, x, first, but(all, c.missing...)...)
		})
	}
}

// Likewise of three and four pods: a third one is what keeps a move from being
// done, or makes it possible.
func TestMovesThatHangOnOthers(t *testing.T) { // P18.1, P18.4
	for _, c := range []struct {
		name string
		load api.Load   // of Id 1
		pods [][2]int   // of pods 7, 8 and so on, which may all go for pod 6: load, node
		due  []api.Move // but for those of pod 6
		six  []api.Move // those of pod 6, which is nowhere, if it is of load 1
		odd  []api.Move // if it is of load 3
	}{
		{
			"one at each node, apart", api.Load{Apart: true, Max: 9}, [][2]int{{1, 2}, {1, 4}},
			[]api.Move{evict(7), evict(8)},
			[]api.Move{preempt(6, 2, 7), preempt(6, 4, 8)},
			[]api.Move{place(6, 2), place(6, 4), preempt(6, 2, 7), preempt(6, 4, 8)},
		},
		{
			"two of two loads at a node, apart", api.Load{Apart: true, Max: 9}, [][2]int{{1, 2}, {3, 2}},
			[]api.Move{evict(7), evict(8), shift(7, 4), shift(8, 4)},
			[]api.Move{place(6, 4), preempt(6, 2, 7)},
			[]api.Move{place(6, 2), place(6, 4), preempt(6, 2, 7), preempt(6, 2, 8)},
		},
		{
			"one in each zone", api.Load{Skew: 1, Max: 9}, [][2]int{{1, 2}, {1, 4}},
			[]api.Move{evict(7), evict(8)},
			[]api.Move{place(6, 2), place(6, 4), preempt(6, 2, 7), preempt(6, 4, 8)},
			[]api.Move{place(6, 2), place(6, 4), preempt(6, 2, 7), preempt(6, 4, 8)},
		},
		{
			"two in a zone, one in the other", api.Load{Skew: 1, Max: 9}, [][2]int{{1, 2}, {1, 4}, {1, 4}},
			[]api.Move{evict(8), evict(9), shift(8, 2), shift(9, 2)},
			[]api.Move{place(6, 2), preempt(6, 2, 7), preempt(6, 4, 8), preempt(6, 4, 9)},
			[]api.Move{place(6, 2), place(6, 4), preempt(6, 4, 8), preempt(6, 4, 9)},
		},
		{
			"two in a zone, none in the other, which isn't safe", api.Load{Skew: 1, Max: 9}, [][2]int{{1, 4}, {1, 4}, {3, 4}},
			[]api.Move{evict(7), evict(8), shift(7, 2), shift(8, 2)},
			[]api.Move{place(6, 2)},
			[]api.Move{preempt(6, 4, 7), preempt(6, 4, 8)},
		},
		{
			"just so many as there are to be", api.Load{Min: 2, Max: 2}, [][2]int{{1, 2}, {1, 4}, {3, 4}},
			[]api.Move{evict(9), shift(7, 4), shift(8, 2), shift(9, 2)},
			[]api.Move{preempt(6, 2, 7), preempt(6, 4, 8)},
			[]api.Move{place(6, 2), place(6, 4), preempt(6, 4, 9)},
		},
	} {
		t.Run(c.name, func(t *testing.T) {
			s, x, first := pair()
			for i := range s.Nodes {
				s.Nodes[i].Cap[0] = 99
			}
			s.Loads[0] = c.load
			s.Loads[0].Id = 1
			first.Pods = first.Pods[:1]
			for i, p := range c.pods {
				first.Pods = append(first.Pods, api.Pod{Id: 7 + i, Load: p[0], Prio: 1, Req: api.Vec{1}, Node: p[1]})
			}
			for _, mine := range [][]api.Move{c.six, c.odd} {
				due := slices.Concat(c.due, mine)
				slices.SortStableFunc(due, func(a, b api.Move) int { return a.Kind - b.Kind })
				told(t, c.name, s, x, first, due...)
				first.Pods[0].Load = 3
			}
		})
	}
}

// orders are all orders of so many things.
func orders(many int) [][]int {
	l := [][]int{{}}
	for i := range many {
		var longer [][]int
		for _, o := range l {
			for at := range len(o) + 1 {
				longer = append(longer, slices.Insert(slices.Clone(o), at, i))
			}
		}
		l = longer
	}
	return l
}

// Whatever order the nodes and the pods stand in, the moves stand by rising
// Kind, then Pod, Node, Over; and the states behind them in that order.
func TestTheOrder(t *testing.T) { // P18.1
	s, x, first := crowd()
	told(t, "the crowd", s, x, first, ofCrowd()...)
	nodes, pods := slices.Clone(s.Nodes), slices.Clone(first.Pods)
	for n, o := range orders(6) {
		nodeOrder := orders(4)[n%24]
		for i := range s.Nodes {
			s.Nodes[i] = nodes[nodeOrder[i]]
		}
		for i := range first.Pods {
			first.Pods[i] = pods[o[i]]
		}
		told(t, "the crowd, in another order", s, x, first, ofCrowd()...)
	}
	slices.Reverse(s.Loads)
	s.Pods = nil
	told(t, "the crowd, of a snapshot without pods", s, x, first, ofCrowd()...)
	if !slices.IsSortedFunc(ofCrowd(), func(a, b api.Move) int {
		return slices.Compare([]int{a.Kind, a.Pod, a.Node, a.Over}, []int{b.Kind, b.Pod, b.Node, b.Over})
	}) {
		t.Error("the moves that are due don't rise")
	}
}

// Ids of pods and nodes are ordered by their numbers, those below 0, too, and
// far apart.
func TestIdsThatMayNotBe(t *testing.T) { // P18.1, P1
	ids := []int{math.MinInt, -1 << 32, -3, 1, 1 << 32, math.MaxInt}
	s := api.Snapshot{Loads: []api.Load{{Id: 1, Max: 9}}}
	at := api.State{Preempts: math.MinInt, Shifts: math.MinInt}
	for i, id := range ids {
		s.Nodes = append(s.Nodes, api.Node{Id: ids[(i*5+2)%6]})
		at.Pods = append(at.Pods, api.Pod{Id: ids[(i*5+4)%6], Load: 1, Prio: math.MaxInt})
		if id < 0 {
			at.Pods[i].Prio, at.Pods[i].Node = math.MinInt, ids[i]
		}
	}
	isLow := func(pod int) (int, bool) { // its node, and whether it may go
		p, _ := state.Pod(at, pod)
		return p.Node, p.Node != 0
	}
	var due []api.Move
	for kind := api.Place; kind <= api.Preempt; kind++ {
		for _, pod := range ids {
			from, low := isLow(pod)
			if kind == api.Evict && low {
				due = append(due, evict(pod))
			}
			for _, node := range ids {
				if kind == api.Place && !low {
					due = append(due, place(pod, node))
				}
				if kind == api.Shift && low && node != from {
					due = append(due, shift(pod, node))
				}
				for _, over := range ids {
					if where, lower := isLow(over); kind == api.Preempt && !low && lower && where == node {
						due = append(due, preempt(pod, node, over))
					}
				}
			}
		}
	}
	if len(due) != 3*6+3+3*5+3*3 {
		t.Errorf("%d are due", len(due))
	}
	told(t, "any Ids", s, api.Spec{}, at, due...)
}

// What a move's Kind has no use for is 0: the Node of an Evict, and the Over of
// all but a Preempt.
func TestWhatMovesHold(t *testing.T) { // P18.1
	s, x, first := crowd()
	many := map[int]int{}
	for _, m := range All(s, x, first) {
		many[m.Kind]++
		if (m.Node == 0) != (m.Kind == api.Evict) || (m.Over == 0) != (m.Kind != api.Preempt) {
			t.Errorf("%v", m)
		}
	}
	if many[api.Place] != 8 || many[api.Evict] != 4 || many[api.Shift] != 12 || many[api.Preempt] != 6 || len(many) != 4 {
		t.Errorf("so many of each Kind: %v", many)
	}
}

// Of pods or nodes of one Id the first one counts, as in layer 12, and each move
// is told once.
func TestIdsThatAreThereTwice(t *testing.T) { // P18.1, P1
	s, x, first := pair()
	s.Nodes = slices.Concat(s.Nodes, s.Nodes)
	told(t, "nodes twice", s, x, first, ofPair()...)
	s.Nodes = slices.Concat(s.Nodes, s.Nodes)
	told(t, "nodes four times", s, x, first, ofPair()...)
	s.Nodes[0].Cap[0], s.Nodes[3].Cap[0], s.Nodes[5].Cap[0] = 1, 0, 0
	told(t, "no room at the first one of an Id", s, x, first, but(ofPair(), place(6, 2), shift(9, 2))...)

	s, x, first = pair()
	first.Pods = append(first.Pods, first.Pods[0], first.Pods[0])
	told(t, "the one that is nowhere three times", s, x, first, ofPair()...)
	first.Pods[2].Node, first.Pods[3].Node, first.Pods[3].Prio = 2, 4, 0
	s.Nodes[0].Cap[0], s.Nodes[1].Cap[0] = 99, 99
	told(t, "the first of it is nowhere", s, x, first, ofPair()...)
	first.Pods[0], first.Pods[2] = first.Pods[2], first.Pods[0]
	told(t, "the first of it is somewhere", s, x, first, evict(6), evict(9), shift(6, 4), shift(9, 2))

	s, x, first = pair()
	s.Nodes[0].Cap[0] = 99
	first.Pods = append(first.Pods, api.Pod{Id: 9, Load: 1, Prio: 0, Node: 2}, api.Pod{Id: 9, Load: 1})
	told(t, "the one that goes three times", s, x, first, ofPair()...)
	first.Pods[1].Node, first.Pods[2].Node = 2, 4
	told(t, "and the first of it elsewhere", s, x, first, place(6, 2), place(6, 4), evict(9), shift(9, 4), preempt(6, 2, 9))
}

// Layer 12 lets pods come to a node of Id 0, of a snapshot that may not be: what
// it does is told.
func TestNodesOfId0(t *testing.T) { // P18.1, P18.4, P1
	s, x, first := pair()
	s.Nodes[0].Id = 0
	told(t, "a node of Id 0", s, x, first, place(6, 0), place(6, 4), evict(9), shift(9, 0), preempt(6, 4, 9))
	first.Pods[1].Node = 0
	told(t, "and two that are nowhere", s, x, first, place(6, 0), place(6, 4), place(9, 0), place(9, 4), preempt(6, 0, 9))
	first.Pods[0].Id = 0
	told(t, "and a pod of Id 0", s, x, first, place(0, 0), place(0, 4), place(9, 0), place(9, 4), preempt(0, 0, 9))
	first.Pods[0].Prio, first.Pods[1].Node = 0, 4
	told(t, "which is below", s, x, first, place(0, 0), place(0, 4), evict(9), shift(9, 0))
	first.Pods[0].Node, first.Pods[1].Node = 4, 0
	told(t, "and may go", s, x, first, place(9, 0), place(9, 4), evict(0), shift(0, 0), preempt(9, 4, 0))
}

// The states behind the moves, field by field.
func TestNext(t *testing.T) { // P18.1
	s, x, first := pair()
	x.Wants = []api.Want{stay(6, 1, 2), leave(9)}
	first.Preempts, first.Shifts, x.Preempts, x.Shifts = 3, 4, 40, 40
	pods := func(six, nine int, req api.Vec) []api.Pod {
		return []api.Pod{{Id: 6, Load: 1, Prio: 2, Req: req, Node: six}, {Id: 9, Load: 1, Prio: 1, Req: api.Vec{2}, Node: nine}}
	}
	due := []api.State{
		{Pods: pods(2, 4, api.Vec{1, 2}), Preempts: 3, Shifts: 4},
		{Pods: pods(4, 4, api.Vec{1, 2}), Preempts: 3, Shifts: 4},
		{Pods: pods(0, 0, api.Vec{3}), Preempts: 3, Shifts: 4},
		{Pods: pods(0, 2, api.Vec{3}), Preempts: 3, Shifts: 5},
		{Pods: pods(4, 0, api.Vec{1, 2}), Preempts: 4, Shifts: 4},
	}
	for i := range s.Nodes {
		s.Nodes[i].Cap = api.Vec{9, 9}
	}
	for range 2 {
		if l := Next(s, x, first); !slices.EqualFunc(l, due, state.Same) {
			t.Errorf("next are %v, want %v", l, due)
		}
	}
	told(t, "the same", s, x, first, ofPair()...)
	first.Shifts = 41
	if l := Next(s, x, first); len(l) != 0 {
		t.Errorf("no move can be done, and next are %v", l)
	}
}

// Pods that differ in nothing but their Ids have moves of their own each; of two
// that don't differ in that either, those of the first are told, once.
func TestPodsThatAreAlike(t *testing.T) { // P18.1, P1
	s, x, first := pair()
	s.Nodes = append(s.Nodes, api.Node{Id: 5, Zone: 2, Cap: api.Vec{9}})
	first.Pods[0].Node = 2
	first.Pods[1] = first.Pods[0]
	first.Pods[1].Id = 9
	s.Nodes[0].Cap[0] = 9
	told(t, "two Ids", s, x, first, evict(6), evict(9), shift(6, 4), shift(6, 5), shift(9, 4), shift(9, 5))
	first.Pods[1].Id = 6
	told(t, "one Id", s, x, first, evict(6), shift(6, 4), shift(6, 5))
}

// Moves that can't be done in the state at hand are no more told than those of
// another one: each state of a walk has its own.
func TestAllAlongAWalk(t *testing.T) { // P18.1
	s, x, at := pair()
	for _, c := range []struct {
		m   api.Move
		due []api.Move // ahead of it
	}{
		{preempt(6, 4, 9), ofPair()},
		{place(9, 2), []api.Move{place(9, 2), place(9, 4), evict(6), shift(6, 2)}},
		{shift(9, 4), []api.Move{evict(6), evict(9), shift(6, 2), shift(9, 4)}},
		{evict(6), []api.Move{evict(6), evict(9)}},
		{place(6, 2), []api.Move{place(6, 2), place(6, 4), evict(9)}},
		{evict(9), []api.Move{evict(6), evict(9)}},
		{evict(6), []api.Move{place(9, 2), place(9, 4), evict(6)}},
		{place(9, 4), []api.Move{place(6, 2), place(6, 4), place(9, 2), place(9, 4)}},
	} {
		told(t, "a walk", s, x, at, c.due...)
		behind, err := step.Do(s, x, at, c.m)
		if err != nil {
			t.Fatalf("%v: %v", c.m, err)
		}
		at = behind
	}
}

// sites is where each of the pods 1, 2 and so on is; each of them has its Id as
// Req.
func sites(nodes ...int) api.State {
	var t api.State
	for i, node := range nodes {
		t.Pods = append(t.Pods, api.Pod{Id: 1 + i, Load: 1, Req: api.Vec{uint64(1 + i)}, Node: node})
	}
	return t
}

func TestFar(t *testing.T) { // P18.2
	for _, c := range []struct {
		name  string
		wants []api.Want
		due   int
	}{
		{"no wants", nil, 0},
		{"an empty list", []api.Want{}, 0},
		{"one of each kind, met", []api.Want{stay(1, 1), leave(3)}, 0},
		{"all of them, met", []api.Want{leave(4), leave(3), stay(2, 2), stay(1, 1)}, 0},
		{"one that isn't met", []api.Want{leave(1)}, 1},
		{"one that isn't met, and some that are", []api.Want{stay(1, 1), leave(2), leave(3)}, 1},
		{"two that aren't met", []api.Want{leave(1), stay(3, 3)}, 1},
		{"two that aren't met, and some that are", []api.Want{stay(1, 1), leave(2), stay(3, 3), leave(4)}, 1},
		{"three that aren't met", []api.Want{leave(1), leave(2), stay(3, 3)}, 2},
		{"three that aren't met, and one that is", []api.Want{leave(4), leave(1), leave(2), stay(3, 3)}, 2},
		{"four that aren't met", []api.Want{stay(4, 4), leave(1), leave(2), stay(3, 3)}, 2},
		{"somewhere, with that Req", []api.Want{stay(2, 2)}, 0},
		{"somewhere, with less", []api.Want{stay(2, 3)}, 1},
		{"somewhere, with more", []api.Want{stay(2, 1)}, 1},
		{"somewhere, with none", []api.Want{stay(2)}, 1},
		{"somewhere, with another thing", []api.Want{stay(2, 0, 2)}, 1},
		{"somewhere, with another thing beside it", []api.Want{stay(2, 2, 0, 0, 1)}, 1},
		{"nowhere, with that Req", []api.Want{stay(3, 3)}, 1},
		{"nowhere, with another Req", []api.Want{stay(3, 9)}, 1},
		{"nowhere, as it is to be", []api.Want{leave(3)}, 0},
		{"nowhere, as it is to be, with a Req that says nothing", []api.Want{{Pod: 3, Req: api.Vec{9}}}, 0},
		{"somewhere, and is to be nowhere", []api.Want{leave(2)}, 1},
		{"somewhere, and is to be nowhere, with that Req", []api.Want{{Pod: 2, Req: api.Vec{2}}}, 1},
		{"a pod that isn't there is to stay", []api.Want{stay(9)}, 1},
		{"a pod that isn't there is to be nowhere", []api.Want{leave(9)}, 1},
		{"pods that aren't there", []api.Want{leave(9), stay(0), leave(-1), stay(math.MaxInt), leave(math.MinInt)}, 3},
		{"pods that aren't there among those that are", []api.Want{leave(9), stay(1, 1), leave(3), leave(10), stay(11)}, 2},
		{"one twice, met", []api.Want{leave(3), leave(3)}, 0},
		{"one twice, not met", []api.Want{stay(3, 3), stay(3, 3)}, 1},
		{"one three times, not met", []api.Want{stay(3, 3), stay(3, 3), stay(3, 3)}, 2},
		{"one twice, of which one can be met", []api.Want{stay(1, 1), leave(1)}, 1},
		{"one three times, of which one can be met", []api.Want{leave(1), stay(1, 1), stay(1, 2)}, 1},
	} {
		t.Run(c.name, func(t *testing.T) {
			at := sites(5, 7, 0, 0)
			far(t, c.name, api.Spec{Wants: c.wants}, at, c.due)
			turned := slices.Clone(c.wants)
			slices.Reverse(turned)
			slices.Reverse(at.Pods)
			// Neither the budgets nor what else a pod has count.
			at.Preempts, at.Shifts = math.MaxInt, math.MinInt
			for i := range at.Pods {
				at.Pods[i].Load, at.Pods[i].Prio = -i, math.MinInt
			}
			far(t, c.name+", turned", api.Spec{Wants: turned, Preempts: math.MinInt, Shifts: math.MaxInt}, at, c.due)
		})
	}
	far(t, "nothing at all", api.Spec{}, api.State{}, 0)
	far(t, "no pods", api.Spec{Wants: []api.Want{leave(1)}}, api.State{}, 1)
}

// Of so many that aren't met half of them, and of an odd number half of one
// more, though there be more wants than may be.
func TestFarByHowManyAreNotMet(t *testing.T) { // P18.2, P1
	due := 0
	for many := range 200 {
		if many%2 == 1 {
			due++
		}
		at := sites(make([]int, 250)...)
		var x api.Spec
		for pod := range 250 {
			w := leave(1 + pod*7%250)
			if pod < many {
				w = stay(w.Pod, uint64(w.Pod))
			}
			x.Wants = append(x.Wants, w)
		}
		far(t, "some of 250", x, at, due)
	}
	var x api.Spec
	for range 200_000 {
		x.Wants = append(x.Wants, leave(2), stay(2, 2), leave(9))
	}
	far(t, "600000", x, sites(1, 1), 200_000)
}

// Of pods of one Id the first one counts, as in layer 5; a pod is somewhere at
// a node that the snapshot doesn't have, too.
func TestFarOfPodsThatMayNotBe(t *testing.T) { // P18.2, P1
	at := api.State{Pods: []api.Pod{{Id: 1, Node: -4, Req: api.Vec{2}}, {Id: 1}, {Id: 2}, {Id: 2, Node: 3}, {Id: 0, Node: 1}, {Id: -1}}}
	for _, c := range []struct {
		w   api.Want
		due int
	}{
		{stay(1, 2), 0}, {stay(1), 1}, {leave(1), 1}, {leave(2), 0}, {stay(2), 1},
		{stay(0), 0}, {leave(0), 1}, {leave(-1), 0}, {stay(-1), 1},
	} {
		far(t, "one", api.Spec{Wants: []api.Want{c.w}}, at, c.due)
	}
}

// Far moves do it, where each of them can meet two: each of these Preempts
// does, so that it takes no more than Far tells.
func TestHalfOfThemIsWhatItTakes(t *testing.T) { // P18.2, P18.4
	for many := range 7 {
		s := api.Snapshot{Nodes: []api.Node{{Id: 1, Zone: 1, Cap: api.Vec{99}}}, Loads: []api.Load{{Id: 1, Max: 12}}}
		x := api.Spec{Preempts: 6}
		var l []api.Move
		for i := range many {
			goes, comes := 1+2*i, 2+2*i
			s.Pods = append(s.Pods, api.Pod{Id: goes, Load: 1, Req: api.Vec{1}, Node: 1}, api.Pod{Id: comes, Load: 1, Prio: 1, Req: api.Vec{1}})
			x.Wants = append(x.Wants, leave(goes), stay(comes, 1))
			l = append(l, preempt(comes, 1, goes))
		}
		if err := cluster.Fair(s, x); err != nil {
			t.Fatal(err)
		}
		for n := range len(l) + 1 {
			at, done, err := step.Walk(s, x, l[:n])
			if done != n || err != nil {
				t.Fatalf("%v: %d were done, %v", l, done, err)
			}
			far(t, "behind some of them", x, at, many-n)
			less := x
			less.Wants = slices.Clone(x.Wants)
			if n < many {
				less.Wants[2*n] = stay(2*n+1, 1) // one of an odd number is met as it is
				far(t, "behind some of them, and one is met", less, at, many-n)
			}
			if n < many && !slices.Contains(All(s, x, at), l[n]) {
				t.Errorf("%v isn't among %v", l[n], All(s, x, at))
			}
		}
	}
}

// No move that can be done makes Far less by more than one, where each pod is
// wanted once; where one is wanted twice, one may.
func TestMovesMakeItLessFarByOneAtMost(t *testing.T) { // P18.4
	s, x, first := pair()
	x.Wants = []api.Want{stay(6, 3), leave(9)}
	less := func() []int {
		var l []int
		for _, behind := range Next(s, x, first) {
			l = append(l, Far(x, first)-Far(x, behind))
		}
		return l
	}
	for _, c := range []struct {
		name  string
		wants []api.Want
		far   int
		less  []int // place 6 2, place 6 4, evict 9, shift 9 2, preempt 6 4 9
	}{
		{"both", []api.Want{stay(6, 3), leave(9)}, 1, []int{0, 0, 0, 0, 1}},
		{"both, and one that isn't there", []api.Want{stay(6, 3), leave(9), leave(7)}, 2, []int{1, 1, 1, 0, 1}},
		{"one", []api.Want{stay(6, 3), stay(9, 2)}, 1, []int{1, 1, 0, 0, 0}},
		{"the other one", []api.Want{leave(6), leave(9)}, 1, []int{0, 0, 1, 0, 0}},
		{"neither", []api.Want{leave(6), stay(9, 2)}, 0, []int{-1, -1, -1, 0, -1}},
		{"another Req", []api.Want{stay(9, 1)}, 1, []int{0, 0, 0, 1, 0}},
		{"both, twice", []api.Want{stay(6, 3), leave(9), stay(6, 3), leave(9)}, 2, []int{1, 1, 1, 0, 2}},
	} {
		x.Wants = c.wants
		told(t, c.name, s, x, first, ofPair()...)
		far(t, c.name, x, first, c.far)
		if l := less(); !slices.Equal(l, c.less) {
			t.Errorf("%s: less by %v, want %v", c.name, l, c.less)
		}
	}
}

// Lists far longer than those that may be.
func TestLongLists(t *testing.T) { // P18.1, P1
	s := api.Snapshot{Loads: []api.Load{{Id: 1, Max: 5_000}}}
	at := sites(make([]int, 30)...)
	for i := range 60 {
		s.Nodes = append(s.Nodes, api.Node{Id: 60 - i, Zone: i, Cap: api.Vec{999}})
	}
	at.Pods[29].Node = 3 // all others are nowhere
	var due []api.Move
	for i := range 29 {
		for node := range 60 {
			due = append(due, place(1+i, 1+node))
		}
	}
	told(t, "many nowhere", s, api.Spec{}, at, append(due, evict(30))...)
	at.Pods = nil
	due = nil
	s.Nodes = s.Nodes[:2]
	for i := range 150 {
		at.Pods = append(at.Pods, api.Pod{Id: 150 - i, Load: 1, Node: 60})
		due = append(due, evict(1+i))
	}
	told(t, "many somewhere", s, api.Spec{}, at, due...)
}

// samples is what is handed in, with something behind each list's end, and in
// such an order that sorting would be seen.
func samples() (api.Snapshot, api.Spec, api.State) {
	s, x, first := crowd()
	x.Wants = []api.Want{stay(15, 2, 2), leave(12), stay(11, 2, 2)}
	slices.Reverse(s.Nodes)
	slices.Reverse(first.Pods)
	first.Preempts, first.Shifts = 1, 2
	s.Nodes = append(s.Nodes, api.Node{Id: 77, Cap: api.Vec{99, 99}})[:len(s.Nodes)]
	s.Loads = append(s.Loads, api.Load{Id: 77})[:len(s.Loads)]
	s.Pods = append(s.Pods, api.Pod{Id: 77})[:len(s.Pods)]
	x.Wants = append(x.Wants, api.Want{Pod: 77})[:len(x.Wants)]
	first.Pods = append(first.Pods, api.Pod{Id: 77, Load: 7})[:len(first.Pods)]
	return s, x, first
}

// whole are all lists up to the ends of what they lie in.
func whole(s api.Snapshot, x api.Spec, t api.State) []any {
	return []any{
		s.Nodes[:cap(s.Nodes)], s.Loads[:cap(s.Loads)], s.Pods[:cap(s.Pods)],
		x.Wants[:cap(x.Wants)], x.Preempts, x.Shifts,
		t.Pods[:cap(t.Pods)], t.Preempts, t.Shifts,
	}
}

func TestHandedInStays(t *testing.T) { // P18.3, R2, R4
	s, x, at := samples()
	was := whole(samples())
	stays := func(name string) {
		t.Helper()
		if is := whole(s, x, at); !reflect.DeepEqual(is, was) {
			t.Fatalf("%s: it became %v, and was %v", name, is, was)
		}
	}
	told(t, "the sample", s, x, at, ofCrowd()...)
	stays("both")
	All(s, x, at)
	stays("All")
	Next(s, x, at)
	stays("Next")
	far(t, "the sample", x, at, 2)
	stays("Far")
}

// spoil writes into all that moves, and states, lie in.
func spoil(l []api.Move, states []api.State) {
	l = l[:cap(l)]
	for i := range l {
		l[i] = api.Move{Kind: -1}
	}
	for i := range states {
		spoilPods(states[i].Pods)
	}
	clear(states[:cap(states)])
}

func spoilPods(pods []api.Pod) {
	pods = pods[:cap(pods)]
	for i := range pods {
		pods[i] = api.Pod{Id: -1, Node: -1}
	}
}

// What is told is new memory: who writes into it changes nothing that was
// handed in, nor what else was told, nor what is told next.
func TestWhatIsToldIsNew(t *testing.T) { // P18.3, R2
	s, x, at := samples()
	was := whole(samples())
	l, states := All(s, x, at), Next(s, x, at)
	var due []api.State
	for _, b := range states {
		due = append(due, cloned(b))
	}
	spoil(All(s, x, at), Next(s, x, at))
	if is := whole(s, x, at); !reflect.DeepEqual(is, was) {
		t.Fatalf("it became %v, and was %v", is, was)
	}
	if !slices.Equal(l, ofCrowd()) || !slices.EqualFunc(states, due, state.Same) {
		t.Errorf("what was told became %v, %v", l, states)
	}
	told(t, "again", s, x, at, ofCrowd()...)
	// No two states of one answer share memory.
	for i := range states {
		spoilPods(states[i].Pods)
		if !slices.EqualFunc(states[i+1:], due[i+1:], state.Same) {
			t.Fatalf("with the state behind %v others were changed", l[i])
		}
	}
}

// A later change of what was handed in changes nothing of what was told.
func TestWhatIsToldStays(t *testing.T) { // P18.3, R2
	s, x, at := samples()
	l, states := All(s, x, at), Next(s, x, at)
	var due []api.State
	for _, b := range states {
		due = append(due, cloned(b))
	}
	spoilPods(at.Pods)
	spoilPods(s.Pods)
	clear(s.Nodes)
	clear(s.Loads)
	clear(x.Wants)
	if !slices.Equal(l, ofCrowd()) || !slices.EqualFunc(states, due, state.Same) {
		t.Errorf("what was told became %v, %v", l, states)
	}
}
