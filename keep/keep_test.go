package keep

import (
	"math"
	"reflect"
	"slices"
	"testing"

	"dunnage/api"
	"dunnage/cluster"
	"dunnage/room"
	"dunnage/safe"
	"dunnage/state"
	"dunnage/step"
)

// yard is a snapshot, and a spec, that may be; its first state is safe. Node 1
// has room for 8, node 3 for 9, node 4 for 6.
func yard() (api.Snapshot, api.Spec, api.State) {
	s := api.Snapshot{
		Nodes: []api.Node{
			{Id: 1, Zone: 1, Cap: api.Vec{9, 9}, Held: api.Vec{1}},
			{Id: 3, Zone: 2, Cap: api.Vec{9, 9}},
			{Id: 4, Zone: 2, Cap: api.Vec{6, 9}},
		},
		Loads: []api.Load{
			{Id: 5, Max: 9},
			{Id: 6, Apart: true, Max: 9},
			{Id: 7, Skew: 1, Max: 9},
			{Id: 8, Min: 1, Max: 2},
		},
		Pods: []api.Pod{
			{Id: 11, Load: 5, Prio: 1, Req: api.Vec{4}, Node: 1},
			{Id: 12, Load: 5, Prio: 2, Req: api.Vec{2}, Node: 3},
			{Id: 13, Load: 5, Prio: 3, Req: api.Vec{5}},
			{Id: 14, Load: 6, Prio: 1, Node: 1},
			{Id: 15, Load: 6, Prio: 3, Node: 3},
			{Id: 16, Load: 6, Prio: 3},
			{Id: 17, Load: 7, Prio: 1, Node: 1},
			{Id: 18, Load: 7, Prio: 3, Node: 3},
			{Id: 19, Load: 7, Prio: 3},
			{Id: 20, Load: 8, Prio: 2, Node: 4},
			{Id: 21, Load: 8, Prio: 4, Node: 3},
			{Id: 22, Load: 8, Prio: 3},
		},
	}
	return s, api.Spec{Preempts: 2, Shifts: 2}, state.First(s)
}

func place(pod, node int) api.Move { return api.Move{Kind: api.Place, Pod: pod, Node: node} }
func evict(pod int) api.Move       { return api.Move{Kind: api.Evict, Pod: pod} }
func shift(pod, node int) api.Move { return api.Move{Kind: api.Shift, Pod: pod, Node: node} }
func preempt(pod, node, over int) api.Move {
	return api.Move{Kind: api.Preempt, Pod: pod, Node: node, Over: over}
}

// sites are the pods and the places that they are at.
type sites map[int]int

// moved is a state with some pods at other places, and so much more used of the
// budgets.
func moved(t api.State, to sites, preempts, shifts int) api.State {
	t.Pods = slices.Clone(t.Pods)
	for i, p := range t.Pods {
		if node, ok := to[p.Id]; ok {
			t.Pods[i].Node = node
		}
	}
	t.Preempts += preempts
	t.Shifts += shifts
	return t
}

// resized is a state with another Req of a pod.
func resized(t api.State, pod int, req api.Vec) api.State {
	t.Pods = slices.Clone(t.Pods)
	for i, p := range t.Pods {
		if p.Id == pod {
			t.Pods[i].Req = req
		}
	}
	return t
}

// keeper makes one of a snapshot and a spec of which there is one.
func keeper(t *testing.T, s api.Snapshot, x api.Spec) *Keeper {
	t.Helper()
	k, err := New(s, x)
	if err != nil || k == nil {
		t.Fatalf("New(%v, %v): %v, %v", s, x, k, err)
	}
	return k
}

// stands holds a keeper against the state that it is to be in, how many moves
// are done there, and the rests that layer 6 tells of it.
func stands(t *testing.T, name string, k *Keeper, s api.Snapshot, at api.State, done int) {
	t.Helper()
	for range 2 { // the second time it is told the same
		if got := k.State(); !state.Same(got, at) {
			t.Fatalf("%s: State is %v, want %v", name, got, at)
		}
		if got := k.Done(); got != done {
			t.Fatalf("%s: Done is %d, want %d", name, got, done)
		}
		for _, n := range s.Nodes {
			due, err := room.Rest(s, at, n.Id)
			if got, ok := k.Rest(n.Id); !ok || err != nil || got != due {
				t.Fatalf("%s: Rest(%d) is %v, %v, want %v, %v", name, n.Id, got, ok, due, err)
			}
		}
	}
	for _, id := range []int{0, -1, 2, 5, 11, 99, math.MaxInt, math.MinInt} {
		if _, is := cluster.Node(s, id); is {
			continue
		}
		if got, ok := k.Rest(id); ok || got != (api.Vec{}) {
			t.Fatalf("%s: Rest(%d) is %v, %v of no node", name, id, got, ok)
		}
	}
}

// does holds that a keeper does a move, and stands behind it.
func does(t *testing.T, name string, k *Keeper, s api.Snapshot, m api.Move, behind api.State, done int) {
	t.Helper()
	if err := k.Do(m); err != nil {
		t.Fatalf("%s: Do(%v): %v", name, m, err)
	}
	stands(t, name, k, s, behind, done)
}

// refuses holds that a keeper tells this Code itself of a move, and stands as
// it stood.
func refuses(t *testing.T, name string, k *Keeper, s api.Snapshot, m api.Move, due api.Code) {
	t.Helper()
	at, done := k.State(), k.Done()
	for range 2 {
		if err := k.Do(m); err != error(due) {
			t.Fatalf("%s: Do(%v): %v (%T), want %v", name, m, err, err, due)
		}
		stands(t, name, k, s, at, done)
	}
}

// takesBack holds that a keeper takes a move back, and stands ahead of it.
func takesBack(t *testing.T, name string, k *Keeper, s api.Snapshot, ahead api.State, done int) {
	t.Helper()
	if !k.Undo() {
		t.Fatalf("%s: Undo tells that there is none", name)
	}
	stands(t, name, k, s, ahead, done)
}

// hasNone holds that a keeper has no move to be taken back.
func hasNone(t *testing.T, name string, k *Keeper, s api.Snapshot, first api.State) {
	t.Helper()
	for range 3 {
		if k.Undo() {
			t.Fatalf("%s: Undo tells that there was one", name)
		}
		stands(t, name, k, s, first, 0)
	}
}

// The document's example: no moves, and Undo tells false.
func TestTheExample(t *testing.T) { // P13.1
	s, x, first := yard()
	hasNone(t, "no moves", keeper(t, s, x), s, first)
}

// A keeper of the first state, with the rests written by hand.
func TestKeepersOfFirstStates(t *testing.T) { // P13.1
	s, x, first := yard()
	k := keeper(t, s, x)
	stands(t, "the yard", k, s, first, 0)
	for node, due := range map[int]api.Vec{1: {4, 9}, 3: {7, 9}, 4: {6, 9}} {
		if got, ok := k.Rest(node); !ok || got != due {
			t.Errorf("Rest(%d): %v, %v, want %v", node, got, ok, due)
		}
	}
	hasNone(t, "the yard", k, s, first)
	none := api.Snapshot{Nodes: []api.Node{{Id: 1, Zone: 1, Cap: api.Vec{2, 3, 4, 5}, Held: api.Vec{1, 1, 1, 1}}}}
	hasNone(t, "no pods, no loads", keeper(t, none, api.Spec{}), none, api.State{})
	full := api.Snapshot{
		Nodes: []api.Node{{Id: 7, Zone: 8, Cap: api.Vec{math.MaxUint64, 3}, Held: api.Vec{1, 1}}},
		Loads: []api.Load{{Id: 1, Min: 2, Max: 2}},
		Pods: []api.Pod{
			{Id: 1, Load: 1, Req: api.Vec{math.MaxUint64 - 2, 1}, Node: 7},
			{Id: 2, Load: 1, Req: api.Vec{1, 1}, Node: 7},
		},
	}
	hasNone(t, "no rest at all", keeper(t, full, api.Spec{}), full, state.First(full))
	x.Preempts, x.Shifts = 0, 0
	hasNone(t, "no budgets", keeper(t, s, x), s, first)
	x.Preempts, x.Shifts = api.MaxMoves, api.MaxMoves
	hasNone(t, "the greatest budgets", keeper(t, s, x), s, first)
}

// A snapshot or a spec that may not be: layer 3's error, as it tells it, and no
// keeper.
func TestOfThoseThatMayNotBe(t *testing.T) { // P13.1, R1, R3
	for _, c := range []struct {
		name   string
		change func(s *api.Snapshot, x *api.Spec)
		due    error
	}{
		{"no nodes", func(s *api.Snapshot, _ *api.Spec) { s.Nodes = nil }, api.ErrLarge},
		{"nothing", func(s *api.Snapshot, x *api.Spec) { *s, *x = api.Snapshot{}, api.Spec{} }, api.ErrLarge},
		{"too many nodes", func(s *api.Snapshot, _ *api.Spec) { s.Nodes = make([]api.Node, api.MaxNodes+1) }, api.ErrLarge},
		{"far too many loads", func(s *api.Snapshot, _ *api.Spec) { s.Loads = make([]api.Load, 100_000) }, api.ErrLarge},
		{"too many pods", func(s *api.Snapshot, _ *api.Spec) { s.Pods = append(s.Pods, api.Pod{Id: 23, Load: 5}) }, api.ErrLarge},
		{"a node of Id 0", func(s *api.Snapshot, _ *api.Spec) { s.Nodes[0].Id = 0 }, &api.Spot{At: 0, Err: api.ErrArg}},
		{"Held that doesn't fit in Cap", func(s *api.Snapshot, _ *api.Spec) { s.Nodes[2].Held[3] = 1 }, &api.Spot{At: 2, Err: api.ErrArg}},
		{"a load that is there twice", func(s *api.Snapshot, _ *api.Spec) { s.Loads[1].Id = 5 }, &api.Spot{At: 4, Err: api.ErrTwice}},
		{"Min above Max", func(s *api.Snapshot, _ *api.Spec) { s.Loads[3].Min = 3 }, &api.Spot{At: 6, Err: api.ErrArg}},
		{"a pod of no load", func(s *api.Snapshot, _ *api.Spec) { s.Pods[11].Load = 9 }, &api.Spot{At: 18, Err: api.ErrNone}},
		{"a pod at no node", func(s *api.Snapshot, _ *api.Spec) { s.Pods[0].Node = 2 }, &api.Spot{At: 7, Err: api.ErrNone}},
		{"too great a budget", func(_ *api.Snapshot, x *api.Spec) { x.Preempts = api.MaxMoves + 1 }, api.ErrLarge},
		{"a budget below 0", func(_ *api.Snapshot, x *api.Spec) { x.Shifts = -1 }, api.ErrLarge},
		{"a want of no pod", func(_ *api.Snapshot, x *api.Spec) { x.Wants = []api.Want{{Pod: 11}, {Pod: 99}} }, &api.Spot{At: 1, Err: api.ErrNone}},
		{"a want that is there twice", func(_ *api.Snapshot, x *api.Spec) { x.Wants = []api.Want{{Pod: 11}, {Pod: 11}} }, &api.Spot{At: 1, Err: api.ErrTwice}},
		{"a want of nowhere with Req", func(_ *api.Snapshot, x *api.Spec) { x.Wants = []api.Want{{Pod: 11, Req: api.Vec{1}}} }, &api.Spot{At: 0, Err: api.ErrArg}},
	} {
		t.Run(c.name, func(t *testing.T) {
			for _, full := range []bool{false, true} { // and if the first state isn't safe, too
				s, x, _ := yard()
				if full {
					s.Pods[1].Req[0] = 10
				}
				c.change(&s, &x)
				for range 2 {
					if k, err := New(s, x); k != nil || !reflect.DeepEqual(err, c.due) {
						t.Errorf("%v, %v (%T), want %v", k, err, err, c.due)
					}
				}
				if err := cluster.Fair(s, x); !reflect.DeepEqual(err, c.due) {
					t.Errorf("cluster.Fair tells %v", err)
				}
			}
		})
	}
}

// A first state that isn't safe: its Code itself, and no keeper; of several
// faults that of the first check, and of a check that of the first node or load.
// (The fifth way, used budgets, is none of a first state: nothing was used, and
// no budget that may be is below that.)
func TestOfFirstStatesThatAreNotSafe(t *testing.T) { // P13.1, R1, R3
	noRoom := func(s *api.Snapshot) { s.Pods[1].Req[0] = 10 }
	goesOver := func(s *api.Snapshot) { s.Pods[0].Req[3], s.Pods[6].Req[3] = 1<<63, 1<<63 }
	together := func(s *api.Snapshot) { s.Pods[3].Node = 3 }
	unlike := func(s *api.Snapshot) { s.Pods[6].Node = 4 }
	few := func(s *api.Snapshot) { s.Pods[9].Node, s.Pods[10].Node = 0, 0 }
	many := func(s *api.Snapshot) { s.Pods[11].Node = 4 }
	type changes []func(*api.Snapshot)
	for _, c := range []struct {
		name    string
		changes changes
		due     api.Code
	}{
		{"no room", changes{noRoom}, api.ErrRoom},
		{"a sum that goes over", changes{goesOver}, api.ErrOver},
		{"two together", changes{together}, api.ErrApart},
		{"zones too unlike", changes{unlike}, api.ErrSpread},
		{"too few", changes{few}, api.ErrFew},
		{"too many", changes{many}, api.ErrMany},
		{"too few of a load of no pods", changes{func(s *api.Snapshot) { s.Loads = append(s.Loads, api.Load{Id: 9, Min: 1, Max: 1}) }}, api.ErrFew},
		{"no room behind what goes over", changes{goesOver, noRoom}, api.ErrOver},
		{"no room ahead of what goes over", changes{goesOver, noRoom, func(s *api.Snapshot) { swapNodes(s, 1, 3) }}, api.ErrRoom},
		{"no room for what goes over", changes{goesOver, func(s *api.Snapshot) { s.Pods[0].Req[0] = 9 }}, api.ErrOver},
		{"Held is too much", changes{func(s *api.Snapshot) { s.Nodes[0].Held[0] = 6 }}, api.ErrRoom},
		{"no room, and two together", changes{noRoom, together}, api.ErrRoom},
		{"what goes over, and two together", changes{goesOver, together}, api.ErrOver},
		{"two together, and zones too unlike", changes{unlike, together}, api.ErrApart},
		{"two together, behind zones too unlike", changes{unlike, together, func(s *api.Snapshot) { swapLoads(s, 6, 7) }}, api.ErrApart},
		{"zones too unlike, and too few", changes{few, unlike}, api.ErrSpread},
		{"zones too unlike, behind too few", changes{unlike, func(s *api.Snapshot) { s.Loads[0].Min, s.Loads[0].Max = 5, 5 }}, api.ErrSpread},
		{"two together, behind too few", changes{together, func(s *api.Snapshot) { s.Loads[0].Min, s.Loads[0].Max = 5, 5 }}, api.ErrApart},
		{"too few, behind too many", changes{few, func(s *api.Snapshot) { s.Loads[0].Max = 1 }}, api.ErrMany},
		{"too few, ahead of too many", changes{many, func(s *api.Snapshot) { s.Loads[0].Min = 3 }}, api.ErrFew},
		{"all", changes{noRoom, together, unlike, few}, api.ErrRoom},
	} {
		t.Run(c.name, func(t *testing.T) {
			s, x, _ := yard()
			for _, change := range c.changes {
				change(&s)
			}
			if err := cluster.Fair(s, x); err != nil {
				t.Fatal(err)
			}
			if all := safe.All(s, x, state.First(s)); len(all) == 0 || all[0] != c.due {
				t.Fatalf("layer 11 tells %v", all)
			}
			for range 2 {
				if k, err := New(s, x); k != nil || err != error(c.due) {
					t.Errorf("%v, %v (%T), want %v", k, err, err, c.due)
				}
			}
		})
	}
}

// swapNodes gives each of two nodes what the other one has.
func swapNodes(s *api.Snapshot, a, b int) {
	for i, n := range s.Nodes {
		s.Nodes[i].Id = other(n.Id, a, b)
	}
	for i, p := range s.Pods {
		s.Pods[i].Node = other(p.Node, a, b)
	}
	slices.SortFunc(s.Nodes, func(n, m api.Node) int { return n.Id - m.Id })
}

// swapLoads gives each of two loads what the other one has.
func swapLoads(s *api.Snapshot, a, b int) {
	for i, l := range s.Loads {
		s.Loads[i].Id = other(l.Id, a, b)
	}
	for i, p := range s.Pods {
		s.Pods[i].Load = other(p.Load, a, b)
	}
	slices.SortFunc(s.Loads, func(l, m api.Load) int { return l.Id - m.Id })
}

// other is the other one of two, of one of them; else the number itself.
func other(n, a, b int) int {
	switch n {
	case a:
		return b
	case b:
		return a
	}
	return n
}

// A move of each kind, with the state behind it and the rests there, by hand:
// done, taken back, and done again.
func TestMovesThatAreDone(t *testing.T) { // P13.1, P13.3
	for _, c := range []struct {
		name             string
		m                api.Move
		to               sites
		preempts, shifts int
		rests            [3]uint64 // of nodes 1, 3, 4, the first of the four numbers
	}{
		{"Place", place(13, 3), sites{13: 3}, 0, 0, [3]uint64{4, 2, 6}},
		{"Place at another node", place(13, 4), sites{13: 4}, 0, 0, [3]uint64{4, 7, 1}},
		{"Place of one of a load that is apart", place(16, 4), sites{16: 4}, 0, 0, [3]uint64{4, 7, 6}},
		{"Place of one of a load that is spread", place(19, 1), sites{19: 1}, 0, 0, [3]uint64{4, 7, 6}},
		{"Evict", evict(11), sites{11: 0}, 0, 0, [3]uint64{8, 7, 6}},
		{"Evict of one of a load that needs one", evict(20), sites{20: 0}, 0, 0, [3]uint64{4, 7, 6}},
		{"Shift", shift(11, 3), sites{11: 3}, 0, 1, [3]uint64{8, 3, 6}},
		{"Shift from a zone's node to the other one", shift(18, 4), sites{18: 4}, 0, 1, [3]uint64{4, 7, 6}},
		{"Preempt", preempt(13, 1, 11), sites{13: 1, 11: 0}, 1, 0, [3]uint64{3, 7, 6}},
		{"Preempt of one that is apart", preempt(16, 1, 14), sites{16: 1, 14: 0}, 1, 0, [3]uint64{4, 7, 6}},
		{"Preempt of one of a load that is full", preempt(22, 4, 20), sites{22: 4, 20: 0}, 1, 0, [3]uint64{4, 7, 6}},
	} {
		t.Run(c.name, func(t *testing.T) {
			s, x, first := yard()
			behind := moved(first, c.to, c.preempts, c.shifts)
			if due, err := step.Do(s, x, first, c.m); err != nil || !state.Same(due, behind) {
				t.Fatalf("layer 12 tells %v, %v", due, err)
			}
			for _, enough := range []bool{true, false} {
				if !enough { // but for this move alone
					x.Preempts, x.Shifts = c.preempts, c.shifts
				}
				k := keeper(t, s, x)
				for range 3 {
					does(t, "done", k, s, c.m, behind, 1)
					for i, node := range []int{1, 3, 4} {
						if got, _ := k.Rest(node); got != (api.Vec{c.rests[i], 9}) {
							t.Errorf("Rest(%d): %v, want %d", node, got, c.rests[i])
						}
					}
					takesBack(t, "taken back", k, s, first, 0)
				}
				hasNone(t, "taken back", k, s, first)
			}
		})
	}
}

// A pod that comes to a node has the Req of its want with Stay; taken back it
// has the one that it had.
func TestReqsThatAreWanted(t *testing.T) { // P13.1, P13.3
	s, x, first := yard()
	x.Wants = []api.Want{{Pod: 11, Stay: true, Req: api.Vec{6, 1}}, {Pod: 12}, {Pod: 13, Stay: true, Req: api.Vec{7, 2}}}
	k := keeper(t, s, x)
	for _, c := range []struct {
		name   string
		m      api.Move
		behind api.State
	}{
		{"Place", place(13, 3), resized(moved(first, sites{13: 3}, 0, 0), 13, api.Vec{7, 2})},
		{"Preempt", preempt(13, 1, 11), resized(moved(first, sites{13: 1, 11: 0}, 1, 0), 13, api.Vec{7, 2})},
		{"Shift", shift(11, 4), resized(moved(first, sites{11: 4}, 0, 1), 11, api.Vec{6, 1})},
		{"Shift, with a want not to stay", shift(12, 4), moved(first, sites{12: 4}, 0, 1)},
		{"Evict, with a want to stay", evict(11), moved(first, sites{11: 0}, 0, 0)},
	} {
		does(t, c.name, k, s, c.m, c.behind, 1)
		takesBack(t, c.name, k, s, first, 0)
	}
	refuses(t, "no room for the Req that is wanted", k, s, place(13, 4), api.ErrRoom)
	there := resized(moved(first, sites{11: 4}, 0, 1), 11, api.Vec{6, 1})
	back := moved(there, sites{11: 1}, 0, 1)
	does(t, "there", k, s, shift(11, 4), there, 1)
	does(t, "and back again", k, s, shift(11, 1), back, 2)
	does(t, "gone with the Req that is wanted", k, s, evict(11), moved(back, sites{11: 0}, 0, 0), 3)
	takesBack(t, "gone", k, s, back, 2)
	takesBack(t, "and back again", k, s, there, 1)
	takesBack(t, "there", k, s, first, 0)
	s.Pods[2].Req[0] = 99
	k = keeper(t, s, x)
	does(t, "room for the Req that is wanted alone", k, s, place(13, 3), resized(moved(state.First(s), sites{13: 3}, 0, 0), 13, api.Vec{7, 2}), 1)
	takesBack(t, "and its own again", k, s, state.First(s), 0)
}

// A move of each error that layer 12's Do has, in the first state.
func TestMovesThatAreRefused(t *testing.T) { // P13.1
	type changes = func(s *api.Snapshot, x *api.Spec)
	nothing := func(*api.Snapshot, *api.Spec) {}
	needed := func(s *api.Snapshot, _ *api.Spec) { s.Loads[3].Min = 2 }
	lone := func(s *api.Snapshot, _ *api.Spec) { s.Pods[6].Node = 0 }
	spent := func(_ *api.Snapshot, x *api.Spec) { x.Preempts, x.Shifts = 0, 0 }
	wanted := func(l ...api.Want) changes { return func(_ *api.Snapshot, x *api.Spec) { x.Wants = l } }
	for _, c := range []struct {
		name   string
		change changes
		m      api.Move
		due    api.Code
	}{
		{"no kind", nothing, api.Move{Pod: 13, Node: 3}, api.ErrArg},
		{"a kind below", nothing, api.Move{Kind: -1, Pod: 13, Node: 3}, api.ErrArg},
		{"a kind above", nothing, api.Move{Kind: 5, Pod: 13, Node: 3}, api.ErrArg},
		{"a zero move", nothing, api.Move{}, api.ErrArg},
		{"Place with Over", nothing, api.Move{Kind: api.Place, Pod: 13, Node: 3, Over: 12}, api.ErrArg},
		{"Evict with Node", nothing, api.Move{Kind: api.Evict, Pod: 11, Node: 1}, api.ErrArg},
		{"Shift with Over", nothing, api.Move{Kind: api.Shift, Pod: 11, Node: 3, Over: 12}, api.ErrArg},
		{"Place of no pod", nothing, place(99, 3), api.ErrNone},
		{"Place at no node", nothing, place(13, 2), api.ErrNone},
		{"Place nowhere", nothing, place(13, 0), api.ErrNone},
		{"Evict of pod 0", nothing, evict(0), api.ErrNone},
		{"Shift of a pod below 0", nothing, shift(math.MinInt, 3), api.ErrNone},
		{"Shift far away", nothing, shift(11, math.MaxInt), api.ErrNone},
		{"Preempt over 0", nothing, preempt(13, 1, 0), api.ErrNone},
		{"Place of one that is somewhere", nothing, place(11, 3), api.ErrState},
		{"Evict of one that is nowhere", nothing, evict(13), api.ErrState},
		{"Shift of one that is nowhere", nothing, shift(13, 3), api.ErrState},
		{"Shift to where it is", nothing, shift(11, 1), api.ErrState},
		{"Preempt for one that is somewhere", nothing, preempt(12, 1, 11), api.ErrState},
		{"Preempt over one that is elsewhere", nothing, preempt(13, 3, 11), api.ErrState},
		{"Preempt over itself", nothing, preempt(13, 3, 13), api.ErrState},
		{"Preempt over one of its Prio", nothing, preempt(16, 3, 15), api.ErrPrio},
		{"Preempt over one above", nothing, preempt(13, 3, 21), api.ErrPrio},
		{"Place, and no room", nothing, place(13, 1), api.ErrRoom},
		{"Shift, and no room", func(s *api.Snapshot, _ *api.Spec) { s.Pods[0].Req[0] = 7 }, shift(11, 4), api.ErrRoom},
		{"Preempt, and no room", nothing, preempt(13, 1, 17), api.ErrRoom},
		{"Preempt, and no room by one", func(s *api.Snapshot, _ *api.Spec) { s.Pods[2].Req[0] = 9 }, preempt(13, 1, 11), api.ErrRoom},
		{"Place, and a sum goes over", wanted(api.Want{Pod: 13, Stay: true, Req: api.Vec{math.MaxUint64 - 1}}), place(13, 3), api.ErrOver},
		{"Shift, and a sum goes over", wanted(api.Want{Pod: 11, Stay: true, Req: api.Vec{math.MaxUint64 - 1}}), shift(11, 3), api.ErrOver},
		{"Preempt, and a sum goes over", wanted(api.Want{Pod: 13, Stay: true, Req: api.Vec{math.MaxUint64}}), preempt(13, 1, 17), api.ErrOver},
		{"Place, and the last sum there is", wanted(api.Want{Pod: 13, Stay: true, Req: api.Vec{math.MaxUint64 - 2}}), place(13, 3), api.ErrRoom},
		{"Preempt, and the last sum there is", wanted(api.Want{Pod: 13, Stay: true, Req: api.Vec{math.MaxUint64}}), preempt(13, 1, 11), api.ErrRoom},
		{"Place, and two are together", nothing, place(16, 3), api.ErrApart},
		{"Shift, and two are together", nothing, shift(14, 3), api.ErrApart},
		{"Preempt, and two are together", nothing, preempt(16, 3, 12), api.ErrApart},
		{"Place, and zones are too unlike", lone, place(19, 4), api.ErrSpread},
		{"Evict, and zones are too unlike", func(s *api.Snapshot, _ *api.Spec) { s.Pods[8].Node = 1 }, evict(18), api.ErrSpread},
		{"Shift, and zones are too unlike", nothing, shift(17, 4), api.ErrSpread},
		{"Preempt, and zones are too unlike", lone, preempt(19, 4, 20), api.ErrSpread},
		{"Evict, and there are too few", needed, evict(20), api.ErrFew},
		{"Preempt, and there are too few", needed, preempt(13, 4, 20), api.ErrFew},
		{"Place, and there are too many", nothing, place(22, 1), api.ErrMany},
		{"Preempt, and there are too many", nothing, preempt(22, 1, 11), api.ErrMany},
		{"Shift, and there are no Shifts", spent, shift(11, 3), api.ErrBudget},
		{"Preempt, and there are no Preempts", spent, preempt(13, 1, 11), api.ErrBudget},
	} {
		t.Run(c.name, func(t *testing.T) {
			s, x, _ := yard()
			c.change(&s, &x)
			first := state.First(s)
			k := keeper(t, s, x)
			refuses(t, "first", k, s, c.m, c.due)
			hasNone(t, "first", k, s, first)
			does(t, "another move", k, s, evict(12), moved(first, sites{12: 0}, 0, 0), 1)
			does(t, "a move back", k, s, place(12, 3), first, 2)
			refuses(t, "behind two moves", k, s, c.m, c.due)
			takesBack(t, "taken back", k, s, moved(first, sites{12: 0}, 0, 0), 1)
			takesBack(t, "taken back", k, s, first, 0)
			if _, err := step.Do(s, x, first, c.m); err != error(c.due) {
				t.Errorf("layer 12 tells %v", err)
			}
		})
	}
}

// A move that has two errors: that of the first in the order state.Make,
// prior.Check, room, apart, spread, budget, used.
func TestTwoErrors(t *testing.T) { // P13.1, R1
	nothing := func(*api.Snapshot, *api.Spec) {}
	spent := func(_ *api.Snapshot, x *api.Spec) { x.Preempts, x.Shifts = 0, 0 }
	for _, c := range []struct {
		name   string
		change func(s *api.Snapshot, x *api.Spec)
		m      api.Move
		due    api.Code
	}{
		{"Preempt over no pod: ErrPrio, too", nothing, preempt(13, 1, 99), api.ErrNone},
		{"Preempt over one above that is elsewhere", nothing, preempt(13, 1, 21), api.ErrState},
		{"Shift with Over, with no budgets", spent, api.Move{Kind: api.Shift, Pod: 11, Node: 3, Over: 12}, api.ErrArg},
		{"Shift to where it is, with no budgets", spent, shift(11, 1), api.ErrState},
		{"Place of one that is somewhere where it has no room", func(s *api.Snapshot, _ *api.Spec) { s.Pods[1].Req[0] = 5 }, place(12, 1), api.ErrState},
		{"Preempt over one of its Prio, and no room", func(s *api.Snapshot, _ *api.Spec) { s.Pods[5].Req[0] = 99 }, preempt(16, 3, 15), api.ErrPrio},
		{"Preempt over one of its Prio, with no budgets", spent, preempt(16, 3, 15), api.ErrPrio},
		{"Preempt over one above, and two together", nothing, preempt(16, 3, 21), api.ErrPrio},
		{"no room, and two together", func(s *api.Snapshot, _ *api.Spec) { s.Pods[5].Req[0] = 99 }, place(16, 3), api.ErrRoom},
		{"no room, and too many", func(s *api.Snapshot, _ *api.Spec) { s.Pods[11].Req[0] = 99 }, place(22, 3), api.ErrRoom},
		{"no room, and the Preempts are used up", spent, preempt(13, 1, 17), api.ErrRoom},
		{"a sum that goes over, and two together", func(s *api.Snapshot, _ *api.Spec) {
			s.Pods[1].Req[3], s.Nodes[1].Cap[3], s.Pods[5].Req[3] = 1, 1, math.MaxUint64
		}, place(16, 3), api.ErrOver},
		{"two together, and zones too unlike", func(s *api.Snapshot, _ *api.Spec) { s.Loads[1].Skew = 1 }, shift(14, 3), api.ErrApart},
		{"two together, and too many", func(s *api.Snapshot, _ *api.Spec) { s.Loads[1].Max = 2 }, place(16, 3), api.ErrApart},
		{"two together, and the Shifts are used up", spent, shift(14, 3), api.ErrApart},
		{"zones too unlike, and too many", func(s *api.Snapshot, _ *api.Spec) { s.Pods[6].Node, s.Loads[2].Max = 0, 1 }, place(19, 4), api.ErrSpread},
		{"zones too unlike, and the Shifts are used up", spent, shift(17, 4), api.ErrSpread},
		{"too many, and the Preempts are used up", spent, preempt(22, 1, 11), api.ErrMany},
		{"too few, and the Preempts are used up", func(s *api.Snapshot, x *api.Spec) { spent(s, x); s.Loads[3].Min = 2 }, preempt(13, 4, 20), api.ErrFew},
	} {
		t.Run(c.name, func(t *testing.T) {
			s, x, _ := yard()
			c.change(&s, &x)
			refuses(t, c.name, keeper(t, s, x), s, c.m, c.due)
			if _, err := step.Do(s, x, state.First(s), c.m); err != error(c.due) {
				t.Errorf("layer 12 tells %v", err)
			}
		})
	}
}

// A Preempt touches two loads, and both are at fault: of one check the fault of
// the load that stands ahead, of two checks that of the first check.
func TestTwoLoadsAtFault(t *testing.T) { // P13.1, R1
	few := api.Load{Min: 1, Max: 9}
	many := api.Load{Max: 1}
	unlike := api.Load{Skew: 1, Max: 9}
	together := api.Load{Apart: true, Max: 9}
	for _, c := range []struct {
		name      string
		over, pod api.Load // of what load they are
		due       api.Code // if the load of Over stands ahead
		dueTurned api.Code // if that of Pod does
	}{
		{"too few, and too many", few, many, api.ErrFew, api.ErrMany},
		{"too few, and two together", few, together, api.ErrApart, api.ErrApart},
		{"too few, and zones too unlike", few, unlike, api.ErrSpread, api.ErrSpread},
		{"zones too unlike, and two together", unlike, together, api.ErrApart, api.ErrApart},
		{"zones too unlike, and too many", unlike, many, api.ErrSpread, api.ErrSpread},
		{"zones too unlike, and zones too unlike", unlike, unlike, api.ErrSpread, api.ErrSpread},
	} {
		t.Run(c.name, func(t *testing.T) {
			for _, turned := range []bool{false, true} {
				overId, podId, due := 1, 2, c.due
				if turned {
					overId, podId, due = 2, 1, c.dueTurned
				}
				s := preempted(c.over, c.pod, overId, podId)
				x := api.Spec{Preempts: 1}
				k := keeper(t, s, x)
				refuses(t, c.name, k, s, preempt(4, 1, 1), due)
				if _, err := step.Do(s, x, state.First(s), preempt(4, 1, 1)); err != error(due) {
					t.Errorf("layer 12 tells %v", err)
				}
			}
		})
	}
}

// preempted is a snapshot in which pod 4 would come in place of pod 1, to pod 3
// of its own load. If the load of pod 1 has a Skew, it has two at the other
// node, and would be one too unlike.
func preempted(over, pod api.Load, overId, podId int) api.Snapshot {
	over.Id, pod.Id = overId, podId
	s := api.Snapshot{
		Nodes: []api.Node{{Id: 1, Zone: 1}, {Id: 2, Zone: 2}},
		Loads: []api.Load{over, pod},
		Pods: []api.Pod{
			{Id: 1, Load: overId, Node: 1},
			{Id: 3, Load: podId, Node: 1},
			{Id: 4, Load: podId, Prio: 1},
		},
	}
	if over.Skew > 0 {
		s.Pods = append(s.Pods, api.Pod{Id: 5, Load: overId, Node: 2}, api.Pod{Id: 6, Load: overId, Node: 2})
	}
	slices.SortFunc(s.Loads, func(l, m api.Load) int { return l.Id - m.Id })
	return s
}

// At a node there is room for one in place of another one, and not beside it:
// with amounts so great that both together go over.
func TestRoomInPlaceOfAnotherOne(t *testing.T) { // P13.1, P13.3
	s := api.Snapshot{
		Nodes: []api.Node{{Id: 1, Zone: 1, Cap: api.Vec{math.MaxUint64, 5}, Held: api.Vec{1, 1}}},
		Loads: []api.Load{{Id: 1, Apart: true, Skew: 1, Min: 1, Max: 1}, {Id: 2, Max: 9}},
		Pods: []api.Pod{
			{Id: 1, Load: 1, Req: api.Vec{math.MaxUint64 - 3, 4}, Node: 1},
			{Id: 2, Load: 1, Prio: 1, Req: api.Vec{math.MaxUint64 - 1, 3}},
			{Id: 3, Load: 2, Prio: 1, Req: api.Vec{2}, Node: 1},
			{Id: 4, Load: 2, Req: api.Vec{math.MaxUint64}},
		},
	}
	k := keeper(t, s, api.Spec{Preempts: 1})
	first := state.First(s)
	refuses(t, "no room beside pod 3", k, s, preempt(2, 1, 1), api.ErrOver)
	refuses(t, "no room beside pod 1", k, s, place(4, 1), api.ErrOver)
	alone := moved(first, sites{3: 0}, 0, 0)
	does(t, "pod 1 alone", k, s, evict(3), alone, 1)
	refuses(t, "no room beside pod 1 alone", k, s, place(2, 1), api.ErrOver)
	behind := moved(alone, sites{1: 0, 2: 1}, 1, 0)
	does(t, "in place of pod 1", k, s, preempt(2, 1, 1), behind, 2)
	if rest, _ := k.Rest(1); rest != (api.Vec{0, 1}) {
		t.Errorf("the rest is %v", rest)
	}
	refuses(t, "no room any more", k, s, place(3, 1), api.ErrOver)
	takesBack(t, "pod 1 alone", k, s, alone, 1)
	takesBack(t, "pods 1 and 3", k, s, first, 0)
	hasNone(t, "pods 1 and 3", k, s, first)
}

// Held and use together may be too much for an amount, where there is just no
// room.
func TestHeldAndUse(t *testing.T) { // P13.1
	s := api.Snapshot{
		Nodes: []api.Node{{Id: 2, Zone: 1, Cap: api.Vec{math.MaxUint64}, Held: api.Vec{math.MaxUint64 - 3}}},
		Loads: []api.Load{{Id: 1, Max: 9}},
		Pods:  []api.Pod{{Id: 1, Load: 1, Req: api.Vec{1}, Node: 2}, {Id: 2, Load: 1, Req: api.Vec{2}}, {Id: 3, Load: 1, Req: api.Vec{math.MaxUint64 - 3}}},
	}
	k := keeper(t, s, api.Spec{})
	refuses(t, "no room", k, s, place(3, 2), api.ErrRoom)
	does(t, "room", k, s, place(2, 2), moved(state.First(s), sites{2: 2}, 0, 0), 1)
	refuses(t, "no room behind it", k, s, place(3, 2), api.ErrRoom)
	s.Pods[2].Node = 2
	if k, err := New(s, api.Spec{}); k != nil || err != error(api.ErrRoom) {
		t.Errorf("%v, %v", k, err)
	}
}

// route are moves of all kinds that are all done, and the states ahead of and
// behind them.
func route() ([]api.Move, []api.State) {
	_, _, first := yard()
	states := []api.State{first}
	add := func(to sites, preempts, shifts int) {
		states = append(states, moved(states[len(states)-1], to, preempts, shifts))
	}
	add(sites{13: 1, 11: 0}, 1, 0)
	add(sites{11: 4}, 0, 0)
	add(sites{12: 1}, 0, 1)
	add(sites{13: 0}, 0, 0)
	add(sites{22: 4, 20: 0}, 1, 0)
	add(sites{13: 3}, 0, 0)
	add(sites{18: 4}, 0, 1)
	return []api.Move{preempt(13, 1, 11), place(11, 4), shift(12, 1), evict(13), preempt(22, 4, 20), place(13, 3), shift(18, 4)}, states
}

// Moves of all kinds: each beginning of them is done, and taken back, the last
// one first, down to each length, and done again from there.
func TestSeveralMoves(t *testing.T) { // P13.1, P13.3
	s, x, first := yard()
	l, states := route()
	for most := range len(l) + 1 {
		for least := range most + 1 {
			k := keeper(t, s, x)
			for n := range most {
				does(t, "done", k, s, l[n], states[n+1], n+1)
			}
			for n := most; n > least; n-- {
				takesBack(t, "taken back", k, s, states[n-1], n-1)
			}
			for n := least; n < len(l); n++ {
				does(t, "done again", k, s, l[n], states[n+1], n+1)
			}
			for n := len(l); n > 0; n-- {
				takesBack(t, "all taken back", k, s, states[n-1], n-1)
			}
			hasNone(t, "all taken back", k, s, first)
		}
	}
}

// Moves that have an error, among those that are done, are none to be taken
// back.
func TestErrorsBetween(t *testing.T) { // P13.1, P13.3
	s, x, first := yard()
	l, states := route()
	errors := func(k *Keeper) {
		t.Helper()
		for _, c := range []struct {
			m   api.Move // it has this error in each of the states
			due api.Code
		}{
			{api.Move{Kind: 5, Pod: 11}, api.ErrArg},
			{evict(99), api.ErrNone},
			{place(14, 4), api.ErrState},
			{preempt(16, 3, 15), api.ErrPrio},
			{shift(14, 3), api.ErrApart},
			{shift(17, 3), api.ErrSpread},
		} {
			refuses(t, "an error between", k, s, c.m, c.due)
		}
	}
	k := keeper(t, s, x)
	errors(k)
	for n, m := range l {
		does(t, "done", k, s, m, states[n+1], n+1)
		errors(k)
	}
	for n := len(l); n > 0; n-- {
		takesBack(t, "taken back", k, s, states[n-1], n-1)
		errors(k)
	}
	hasNone(t, "taken back", k, s, first)
}

// What a move used is there again once it is taken back: the budgets, the room,
// the places, and how many there are of a load.
func TestWhatIsGivenBack(t *testing.T) { // P13.1, P13.3
	s, x, first := yard()
	k := keeper(t, s, x)
	once := moved(first, sites{11: 3}, 0, 1)
	twice := moved(first, sites{}, 0, 2)
	does(t, "a Shift", k, s, shift(11, 3), once, 1)
	does(t, "a second Shift", k, s, shift(11, 1), twice, 2)
	refuses(t, "a third Shift", k, s, shift(11, 3), api.ErrBudget)
	takesBack(t, "a Shift less", k, s, once, 1)
	does(t, "another Shift", k, s, shift(12, 4), moved(once, sites{12: 4}, 0, 1), 2)
	takesBack(t, "a Shift less", k, s, once, 1)
	takesBack(t, "no Shift", k, s, first, 0)

	does(t, "a Preempt", k, s, preempt(16, 1, 14), moved(first, sites{16: 1, 14: 0}, 1, 0), 1)
	takesBack(t, "no Preempt", k, s, first, 0)
	refuses(t, "the place is taken again", k, s, place(16, 1), api.ErrApart)

	there := moved(first, sites{13: 3}, 0, 0)
	does(t, "a Place", k, s, place(13, 3), there, 1)
	refuses(t, "no room beside it", k, s, shift(11, 3), api.ErrRoom)
	takesBack(t, "no Place", k, s, first, 0)
	does(t, "room", k, s, shift(11, 3), once, 1)
	takesBack(t, "no room", k, s, first, 0)

	gone := moved(first, sites{20: 0}, 0, 0)
	does(t, "an Evict", k, s, evict(20), gone, 1)
	refuses(t, "the last one", k, s, evict(21), api.ErrFew)
	does(t, "room for one", k, s, place(22, 4), moved(gone, sites{22: 4}, 0, 0), 2)
	refuses(t, "one too many", k, s, place(20, 1), api.ErrMany)
	takesBack(t, "an Evict alone", k, s, gone, 1)
	takesBack(t, "no Evict", k, s, first, 0)
	refuses(t, "one too many again", k, s, place(22, 4), api.ErrMany)
	does(t, "the other one", k, s, evict(21), moved(first, sites{21: 0}, 0, 0), 1)

	spread := keeper(t, s, x)
	does(t, "one more in zone 1", spread, s, place(19, 1), moved(first, sites{19: 1}, 0, 0), 1)
	refuses(t, "none in zone 2", spread, s, evict(18), api.ErrSpread)
	takesBack(t, "as many as in zone 2", spread, s, first, 0)
	does(t, "one less in zone 2", spread, s, evict(18), moved(first, sites{18: 0}, 0, 0), 1)
	refuses(t, "two more in zone 1", spread, s, place(19, 1), api.ErrSpread)
}

// Far more moves than a plan may have, all taken back.
func TestManyMoves(t *testing.T) { // P13.1, P13.3, P1
	s, x, first := yard()
	k := keeper(t, s, x)
	const many = 20_000
	gone := moved(first, sites{11: 0}, 0, 0)
	for i := range many {
		if i%2 == 0 {
			does(t, "gone", k, s, evict(11), gone, i+1)
		} else {
			does(t, "there", k, s, place(11, 1), first, i+1)
		}
	}
	for i := many; i > 0; i-- {
		if i%2 == 0 {
			takesBack(t, "gone", k, s, gone, i-1)
		} else {
			takesBack(t, "there", k, s, first, i-1)
		}
	}
	hasNone(t, "all taken back", k, s, first)
}

// Keepers of one snapshot go their own ways.
func TestTwoKeepers(t *testing.T) { // P13.2, R4
	s, x, first := yard()
	one, other := keeper(t, s, x), keeper(t, s, x)
	l, states := route()
	for n, m := range l {
		does(t, "one", one, s, m, states[n+1], n+1)
		stands(t, "the other one", other, s, first, 0)
	}
	does(t, "the other one", other, s, evict(12), moved(first, sites{12: 0}, 0, 0), 1)
	stands(t, "one", one, s, states[len(l)], len(l))
	takesBack(t, "one", one, s, states[len(l)-1], len(l)-1)
	stands(t, "the other one", other, s, moved(first, sites{12: 0}, 0, 0), 1)
	stands(t, "a third one", keeper(t, s, x), s, first, 0)
}

// samples is what is handed in, with something behind each list's end.
func samples() (api.Snapshot, api.Spec) {
	s, x, _ := yard()
	x.Wants = []api.Want{{Pod: 11, Stay: true, Req: api.Vec{4}}, {Pod: 12}, {Pod: 13, Stay: true, Req: api.Vec{5}}}
	s.Nodes = append(s.Nodes, api.Node{Id: 77})[:len(s.Nodes)]
	s.Loads = append(s.Loads, api.Load{Id: 77})[:len(s.Loads)]
	s.Pods = append(s.Pods, api.Pod{Id: 77})[:len(s.Pods)]
	x.Wants = append(x.Wants, api.Want{Pod: 77})[:len(x.Wants)]
	return s, x
}

// whole are all lists up to the ends of what they lie in.
func whole(s api.Snapshot, x api.Spec) []any {
	return []any{
		s.Nodes[:cap(s.Nodes)], s.Loads[:cap(s.Loads)], s.Pods[:cap(s.Pods)],
		x.Wants[:cap(x.Wants)], x.Preempts, x.Shifts,
	}
}

func TestHandedInStays(t *testing.T) { // P13.2, R2
	s, x := samples()
	was := whole(samples())
	stays := func(name string) {
		t.Helper()
		if is := whole(s, x); !reflect.DeepEqual(is, was) {
			t.Fatalf("%s: it became %v, and was %v", name, is, was)
		}
	}
	k := keeper(t, s, x)
	stays("New")
	l, states := route()
	for n, m := range l {
		does(t, "done", k, s, m, states[n+1], n+1)
		stays("Do")
		refuses(t, "an error between", k, s, place(14, 4), api.ErrState)
		refuses(t, "an error between", k, s, shift(14, 3), api.ErrApart)
		stays("Do that is refused")
	}
	for n := len(l); n > 0; n-- {
		takesBack(t, "taken back", k, s, states[n-1], n-1)
		stays("Undo")
	}
	s.Pods[1].Req[0] = 10
	was = whole(s, x)
	if k, err := New(s, x); k != nil || err != error(api.ErrRoom) {
		t.Errorf("%v, %v", k, err)
	}
	stays("New that is refused")
}

// Who writes later into what was handed in changes nothing that is told.
func TestHandedInIsNotKept(t *testing.T) { // P13.2, R2
	l, states := route()
	for at := range len(l) + 1 { // behind so many moves it is spoilt
		s, x := samples()
		right, _ := samples()
		k := keeper(t, s, x)
		for n, m := range l {
			if n == at {
				spoil(s, x)
			}
			does(t, "done", k, right, m, states[n+1], n+1)
			refuses(t, "an error between", k, right, shift(14, 3), api.ErrApart)
			refuses(t, "an error between", k, right, shift(17, 3), api.ErrSpread)
		}
		spoil(s, x)
		refuses(t, "the budget that was told", k, right, shift(11, 3), api.ErrBudget)
		refuses(t, "the loads that were told", k, right, place(20, 1), api.ErrMany)
		for n := len(l); n > 0; n-- {
			takesBack(t, "taken back", k, right, states[n-1], n-1)
		}
		hasNone(t, "taken back", k, right, states[0])
	}
	s, x := samples()
	right, _ := samples()
	x.Wants[2].Req = api.Vec{3, 1}
	k := keeper(t, s, x)
	spoil(s, x)
	does(t, "the wants that were told", k, right, place(13, 3), resized(moved(states[0], sites{13: 3}, 0, 0), 13, api.Vec{3, 1}), 1)
}

// spoil overwrites all lists.
func spoil(s api.Snapshot, x api.Spec) {
	for i := range s.Nodes {
		s.Nodes[i] = api.Node{Id: 90 + i, Zone: 1}
	}
	for i := range s.Loads {
		s.Loads[i] = api.Load{Id: 90 + i}
	}
	for i := range s.Pods {
		s.Pods[i] = api.Pod{Id: 90 + i, Load: 90, Req: api.Vec{99, 99, 99, 99}}
	}
	for i := range x.Wants {
		x.Wants[i] = api.Want{Pod: 90 + i}
	}
}

// What is told is new memory: who writes into it changes nothing that is told
// later.
func TestWhatIsToldIsNew(t *testing.T) { // P13.2, R2
	s, x, first := yard()
	k := keeper(t, s, x)
	l, states := route()
	spoilState := func() {
		got := k.State()
		for i := range got.Pods[:cap(got.Pods)] {
			got.Pods[:cap(got.Pods)][i] = api.Pod{Id: -1, Node: 3, Req: api.Vec{1, 1, 1, 1}}
		}
		_ = append(got.Pods, api.Pod{Id: 77})
	}
	for n, m := range l {
		spoilState()
		does(t, "done", k, s, m, states[n+1], n+1)
		spoilState()
		stands(t, "spoilt", k, s, states[n+1], n+1)
	}
	for n := len(l); n > 0; n-- {
		spoilState()
		takesBack(t, "taken back", k, s, states[n-1], n-1)
	}
	hasNone(t, "taken back", k, s, first)
	told := k.State()
	does(t, "done", k, s, evict(11), moved(first, sites{11: 0}, 0, 0), 1)
	if !state.Same(told, first) {
		t.Errorf("what was told became %v", told)
	}
}

// No error that is told twice is the same Spot.
func TestErrorsOfTheirOwn(t *testing.T) { // R2
	s, x, _ := yard()
	s.Nodes[0].Id = 0
	_, one := New(s, x)
	_, two := New(s, x)
	spot, ok := one.(*api.Spot)
	if !ok {
		t.Fatalf("New tells %v", one)
	}
	spot.At, spot.Err = 99, api.ErrGoal
	if !reflect.DeepEqual(two, error(&api.Spot{At: 0, Err: api.ErrArg})) {
		t.Errorf("the other one became %v", two)
	}
}
