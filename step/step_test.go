package step

import (
	"errors"
	"math"
	"reflect"
	"slices"
	"testing"

	"dunnage/api"
	"dunnage/cluster"
	"dunnage/safe"
	"dunnage/state"
)

// yard is a snapshot, and a spec, that may be; its first state is safe. Node 1
// has room for 8, node 3 for 9, node 4 for 6.
func yard() (api.Snapshot, api.Spec, api.State) {
	s := api.Snapshot{
		Nodes: []api.Node{
			{Id: 1, Zone: 1, Cap: api.Vec{9, 9}, Held: api.Vec{1}},
			{Id: 3, Zone: 2, Cap: api.Vec{9, 9}},
			{Id: 4, Zone: 2, Cap: api.Vec{6, 9}},
		},
		Loads: []api.Load{
			{Id: 5, Max: 9},
			{Id: 6, Apart: true, Max: 9},
			{Id: 7, Skew: 1, Max: 9},
			{Id: 8, Min: 1, Max: 2},
		},
		Pods: []api.Pod{
			{Id: 11, Load: 5, Prio: 1, Req: api.Vec{4}, Node: 1},
			{Id: 12, Load: 5, Prio: 2, Req: api.Vec{2}, Node: 3},
			{Id: 13, Load: 5, Prio: 3, Req: api.Vec{5}},
			{Id: 14, Load: 6, Prio: 1, Node: 1},
			{Id: 15, Load: 6, Prio: 3, Node: 3},
			{Id: 16, Load: 6, Prio: 3},
			{Id: 17, Load: 7, Prio: 1, Node: 1},
			{Id: 18, Load: 7, Prio: 3, Node: 3},
			{Id: 19, Load: 7, Prio: 2},
			{Id: 20, Load: 8, Prio: 2, Node: 4},
			{Id: 21, Load: 8, Prio: 4, Node: 3},
			{Id: 22, Load: 8, Prio: 3},
		},
	}
	return s, api.Spec{Preempts: 2, Shifts: 2}, state.First(s)
}

func place(pod, node int) api.Move { return api.Move{Kind: api.Place, Pod: pod, Node: node} }
func evict(pod int) api.Move       { return api.Move{Kind: api.Evict, Pod: pod} }
func shift(pod, node int) api.Move { return api.Move{Kind: api.Shift, Pod: pod, Node: node} }
func preempt(pod, node, over int) api.Move {
	return api.Move{Kind: api.Preempt, Pod: pod, Node: node, Over: over}
}

// sites are the pods and the places that they are at.
type sites map[int]int

// moved is a state with some pods at other places.
func moved(t api.State, to sites) api.State {
	t.Pods = slices.Clone(t.Pods)
	for i, p := range t.Pods {
		if node, ok := to[p.Id]; ok {
			t.Pods[i].Node = node
		}
	}
	return t
}

// resized is a state with another Req of a pod.
func resized(t api.State, pod int, req api.Vec) api.State {
	t.Pods = slices.Clone(t.Pods)
	for i, p := range t.Pods {
		if p.Id == pod {
			t.Pods[i].Req = req
		}
	}
	return t
}

// used is a state in which more of the budgets was used.
func used(t api.State, preempts, shifts int) api.State {
	t.Preempts += preempts
	t.Shifts += shifts
	return t
}

func wants(l ...api.Want) func(*api.Snapshot, *api.Spec, *api.State) {
	return func(_ *api.Snapshot, x *api.Spec, _ *api.State) { x.Wants = l }
}

func nothing(*api.Snapshot, *api.Spec, *api.State) {}

// done holds Do against the state that is due behind a move, and that this
// state is safe.
func done(t *testing.T, name string, s api.Snapshot, x api.Spec, at api.State, m api.Move, due api.State) {
	t.Helper()
	for range 2 { // the second time it is told the same
		got, err := Do(s, x, at, m)
		if err != nil || !reflect.DeepEqual(got, due) {
			t.Errorf("%s: %v, %v, want %v", name, got, err, due)
		}
		if !safe.Is(s, x, got) {
			t.Errorf("%s: %v isn't safe: %v", name, got, safe.Why(s, x, got))
		}
	}
}

// refused holds that Do tells this Code itself, and no state beside it.
func refused(t *testing.T, name string, s api.Snapshot, x api.Spec, at api.State, m api.Move, due api.Code) {
	t.Helper()
	for range 2 {
		got, err := Do(s, x, at, m)
		if err != error(due) {
			t.Errorf("%s: %v (%T), want %v", name, err, err, due)
		}
		if !reflect.DeepEqual(got, api.State{}) {
			t.Errorf("%s: %v beside an error", name, got)
		}
	}
}

func TestTheSampleMayBe(t *testing.T) {
	s, x, first := yard()
	if err := cluster.Fair(s, x); err != nil {
		t.Error(err)
	}
	if err := safe.Why(s, x, first); err != nil {
		t.Error(err)
	}
}

// A move of each kind, with the state behind it: the pods, and what was used
// of both budgets.
func TestMovesThatAreDone(t *testing.T) { // P12.1, P12.3
	for _, c := range []struct {
		name             string
		m                api.Move
		to               sites
		preempts, shifts int
	}{
		{"Place", place(13, 3), sites{13: 3}, 0, 0},
		{"Place at another node", place(13, 4), sites{13: 4}, 0, 0},
		{"Place of one of a load that is apart", place(16, 4), sites{16: 4}, 0, 0},
		{"Place of one of a load that is spread", place(19, 1), sites{19: 1}, 0, 0},
		{"Evict", evict(11), sites{11: 0}, 0, 0},
		{"Evict of one of a load that needs one", evict(20), sites{20: 0}, 0, 0},
		{"Shift", shift(11, 3), sites{11: 3}, 0, 1},
		{"Shift from a zone's node to the other one", shift(18, 4), sites{18: 4}, 0, 1},
		{"Preempt", preempt(13, 1, 11), sites{13: 1, 11: 0}, 1, 0},
		{"Preempt of one that is apart", preempt(16, 1, 14), sites{16: 1, 14: 0}, 1, 0},
		{"Preempt of one of a load that is full", preempt(22, 4, 20), sites{22: 4, 20: 0}, 1, 0},
	} {
		t.Run(c.name, func(t *testing.T) {
			s, x, first := yard()
			behind := used(moved(first, c.to), c.preempts, c.shifts)
			done(t, c.name, s, x, first, c.m, behind)
			x.Preempts, x.Shifts = c.preempts, c.shifts
			done(t, c.name+", with budgets for it alone", s, x, first, c.m, behind)
			x.Preempts, x.Shifts = 30, 40
			ahead := used(first, 30-c.preempts, 40-c.shifts)
			done(t, c.name+", the last one of the budgets", s, x, ahead, c.m, used(moved(first, c.to), 30, 40))
		})
	}
}

// A pod that comes to a node has the Req of its want with Stay, and is looked
// at with that one.
func TestReqsThatAreWanted(t *testing.T) { // P12.1
	s, x, first := yard()
	x.Wants = []api.Want{{Pod: 11, Stay: true, Req: api.Vec{6, 1}}, {Pod: 12}, {Pod: 13, Stay: true, Req: api.Vec{7, 2}}}
	if err := cluster.Fair(s, x); err != nil {
		t.Fatal(err)
	}
	done(t, "Place", s, x, first, place(13, 3), resized(moved(first, sites{13: 3}), 13, api.Vec{7, 2}))
	done(t, "Preempt", s, x, first, preempt(13, 1, 11), resized(used(moved(first, sites{13: 1, 11: 0}), 1, 0), 13, api.Vec{7, 2}))
	done(t, "Shift", s, x, first, shift(11, 4), resized(used(moved(first, sites{11: 4}), 0, 1), 11, api.Vec{6, 1}))
	done(t, "Shift, with a want not to stay", s, x, first, shift(12, 4), used(moved(first, sites{12: 4}), 0, 1))
	done(t, "Evict, with a want to stay", s, x, first, evict(11), moved(first, sites{11: 0}))
	refused(t, "no room for the Req that is wanted", s, x, first, place(13, 4), api.ErrRoom)
	first = resized(first, 13, api.Vec{99})
	done(t, "room for the Req that is wanted alone", s, x, first, place(13, 3), resized(moved(first, sites{13: 3}), 13, api.Vec{7, 2}))
}

// A move that layer 5 can't make: its error.
func TestMovesThatCannotBeMade(t *testing.T) { // P12.1
	for _, c := range []struct {
		name string
		m    api.Move
		due  api.Code
	}{
		{"no kind", api.Move{Pod: 13, Node: 3}, api.ErrArg},
		{"a kind below", api.Move{Kind: -1, Pod: 13, Node: 3}, api.ErrArg},
		{"a kind above", api.Move{Kind: 5, Pod: 13, Node: 3}, api.ErrArg},
		{"a kind far away", api.Move{Kind: math.MaxInt, Pod: 13, Node: 3}, api.ErrArg},
		{"a zero move", api.Move{}, api.ErrArg},
		{"Place with Over", api.Move{Kind: api.Place, Pod: 13, Node: 3, Over: 12}, api.ErrArg},
		{"Evict with Node", api.Move{Kind: api.Evict, Pod: 11, Node: 1}, api.ErrArg},
		{"Evict with Over", api.Move{Kind: api.Evict, Pod: 11, Over: 12}, api.ErrArg},
		{"Shift with Over", api.Move{Kind: api.Shift, Pod: 11, Node: 3, Over: 12}, api.ErrArg},
		{"Place of no pod", place(99, 3), api.ErrNone},
		{"Place at no node", place(13, 2), api.ErrNone},
		{"Place nowhere", place(13, 0), api.ErrNone},
		{"Evict of no pod", evict(0), api.ErrNone},
		{"Shift of no pod", shift(-1, 3), api.ErrNone},
		{"Shift to no node", shift(11, 99), api.ErrNone},
		{"Preempt for no pod", preempt(99, 1, 11), api.ErrNone},
		{"Preempt at no node", preempt(13, 2, 11), api.ErrNone},
		{"Preempt over no pod", preempt(13, 1, 99), api.ErrNone},
		{"Preempt over 0", preempt(13, 1, 0), api.ErrNone},
		{"Place of one that is somewhere", place(11, 3), api.ErrState},
		{"Evict of one that is nowhere", evict(13), api.ErrState},
		{"Shift of one that is nowhere", shift(13, 3), api.ErrState},
		{"Shift to where it is", shift(11, 1), api.ErrState},
		{"Preempt for one that is somewhere", preempt(12, 1, 11), api.ErrState},
		{"Preempt over one that is elsewhere", preempt(13, 3, 11), api.ErrState},
		{"Preempt over one that is nowhere", preempt(13, 3, 19), api.ErrState},
		{"Preempt over itself", preempt(13, 3, 13), api.ErrState},
	} {
		t.Run(c.name, func(t *testing.T) {
			s, x, first := yard()
			refused(t, c.name, s, x, first, c.m, c.due)
			if _, err := state.Make(s, x, first, c.m); err != error(c.due) {
				t.Errorf("state.Make tells %v", err)
			}
		})
	}
}

// A Preempt that layer 10 lets not be: its error.
func TestPreemptsThatMayNotBe(t *testing.T) { // P12.1
	for _, c := range []struct {
		name string
		prio int // of pod 13
		ok   bool
	}{
		{"less", 0, false},
		{"the same", 1, false},
		{"one more", 2, true},
		{"as great as can be", api.MaxCount, true},
	} {
		t.Run(c.name, func(t *testing.T) {
			s, x, first := yard()
			first.Pods[2].Prio = c.prio
			if c.ok {
				done(t, c.name, s, x, first, preempt(13, 1, 11), used(moved(first, sites{13: 1, 11: 0}), 1, 0))
			} else {
				refused(t, c.name, s, x, first, preempt(13, 1, 11), api.ErrPrio)
			}
			first = moved(first, sites{11: 0})
			done(t, "Place of "+c.name, s, x, first, place(13, 1), moved(first, sites{13: 1}))
		})
	}
}

// A move whose state isn't safe, of each of the five ways of layer 11: the Code
// alone, never a Spot.
func TestStatesThatAreNotSafe(t *testing.T) { // P12.1
	for _, c := range []struct {
		name   string
		change func(s *api.Snapshot, x *api.Spec, t *api.State)
		m      api.Move
		due    api.Code
	}{
		{"Place, and no room", nothing, place(13, 1), api.ErrRoom},
		{"Shift, and no room", func(_ *api.Snapshot, _ *api.Spec, t *api.State) { t.Pods[0].Req[0] = 7 }, shift(11, 4), api.ErrRoom},
		{"Preempt, and no room", nothing, preempt(13, 1, 17), api.ErrRoom},
		{"Place, and a sum goes over", wants(api.Want{Pod: 13, Stay: true, Req: api.Vec{math.MaxUint64 - 1}}), place(13, 3), api.ErrOver},
		{"Place, and the last sum there is", wants(api.Want{Pod: 13, Stay: true, Req: api.Vec{math.MaxUint64 - 2}}), place(13, 3), api.ErrRoom},
		{"Place, and two are together", nothing, place(16, 3), api.ErrApart},
		{"Shift, and two are together", nothing, shift(14, 3), api.ErrApart},
		{"Preempt, and two are together", nothing, preempt(16, 3, 12), api.ErrApart},
		{"Place, and zones are too unlike", func(_ *api.Snapshot, _ *api.Spec, t *api.State) { t.Pods[6].Node = 0 }, place(19, 4), api.ErrSpread},
		{"Evict, and zones are too unlike", func(_ *api.Snapshot, _ *api.Spec, t *api.State) { t.Pods[8].Node = 1 }, evict(18), api.ErrSpread},
		{"Shift, and zones are too unlike", nothing, shift(17, 4), api.ErrSpread},
		{"Preempt, and zones are too unlike", func(_ *api.Snapshot, _ *api.Spec, t *api.State) { t.Pods[6].Node = 0 }, preempt(19, 4, 20), api.ErrSpread},
		{"Evict, and there are too few", func(s *api.Snapshot, _ *api.Spec, _ *api.State) { s.Loads[3].Min = 2 }, evict(20), api.ErrFew},
		{"Preempt, and there are too few", func(s *api.Snapshot, _ *api.Spec, _ *api.State) { s.Loads[3].Min = 2 }, preempt(13, 4, 20), api.ErrFew},
		{"Place, and there are too many", nothing, place(22, 1), api.ErrMany},
		{"Preempt, and there are too many", nothing, preempt(22, 1, 11), api.ErrMany},
		{"Shift, and the Shifts are used up", func(_ *api.Snapshot, x *api.Spec, _ *api.State) { x.Shifts = 0 }, shift(11, 3), api.ErrBudget},
		{"Preempt, and the Preempts are used up", func(_ *api.Snapshot, _ *api.Spec, t *api.State) { t.Preempts = 2 }, preempt(13, 1, 11), api.ErrBudget},
	} {
		t.Run(c.name, func(t *testing.T) {
			s, x, first := yard()
			first.Pods[8].Prio = 3 // pod 19 is above pod 20
			c.change(&s, &x, &first)
			if err := safe.Why(s, x, first); err != nil {
				t.Fatalf("the state ahead isn't safe: %v", err)
			}
			refused(t, c.name, s, x, first, c.m, c.due)
		})
	}
}

// A move that has two errors: that of the first in the order state.Make,
// prior.Check, safe.Why.
func TestTwoErrors(t *testing.T) { // P12.1, R1
	tight := func(s *api.Snapshot, x *api.Spec, t *api.State) { x.Preempts, x.Shifts = 0, 0 }
	for _, c := range []struct {
		name   string
		change func(s *api.Snapshot, x *api.Spec, t *api.State)
		m      api.Move
		due    api.Code
	}{
		{"Preempt over no pod: ErrPrio, too", nothing, preempt(13, 1, 99), api.ErrNone},
		{"Preempt for no pod: ErrPrio, too", nothing, preempt(99, 1, 11), api.ErrNone},
		{"Preempt at no node, over one above", nothing, preempt(13, 99, 21), api.ErrNone},
		{"Preempt over itself: ErrPrio, too", nothing, preempt(13, 3, 13), api.ErrState},
		{"Preempt over one above that is elsewhere", nothing, preempt(13, 1, 21), api.ErrState},
		{"Preempt for one that is somewhere, over one of its Prio", nothing, preempt(14, 1, 11), api.ErrState},
		{"Evict with Node, of one that is needed", func(s *api.Snapshot, _ *api.Spec, _ *api.State) { s.Loads[3].Min = 2 }, api.Move{Kind: api.Evict, Pod: 20, Node: 4}, api.ErrArg},
		{"Shift with Over, with no budgets", tight, api.Move{Kind: api.Shift, Pod: 11, Node: 3, Over: 12}, api.ErrArg},
		{"Shift to no node, with no budgets", tight, shift(11, 2), api.ErrNone},
		{"Shift to where it is, with no budgets", tight, shift(11, 1), api.ErrState},
		{"Place of one that is somewhere where it has no room", nothing, place(12, 1), api.ErrState},
		{"no kind, in a state that isn't safe", func(_ *api.Snapshot, _ *api.Spec, t *api.State) { t.Shifts = 99 }, api.Move{Kind: 5, Pod: 11, Node: 3}, api.ErrArg},
		{"Preempt over one of its Prio, and no room", func(_ *api.Snapshot, _ *api.Spec, t *api.State) { t.Pods[1].Req[0] = 5 }, preempt(13, 3, 15), api.ErrPrio},
		{"Preempt over one of its Prio, with no budgets", tight, preempt(16, 3, 15), api.ErrPrio},
		{"Preempt over one above, and two together", nothing, preempt(16, 3, 21), api.ErrPrio},
		{"Preempt over one above, and too many", nothing, preempt(22, 3, 18), api.ErrPrio},
		{"Preempt over one below, with no budgets", tight, preempt(16, 1, 14), api.ErrBudget},
		{"no room, and two together", func(_ *api.Snapshot, _ *api.Spec, t *api.State) { t.Pods[5].Req = api.Vec{99} }, place(16, 3), api.ErrRoom},
		{"two together, and the Shifts are used up", tight, shift(14, 3), api.ErrApart},
		{"zones too unlike, and the Shifts are used up", tight, shift(17, 4), api.ErrSpread},
		{"too many, and the Preempts are used up", tight, preempt(22, 1, 11), api.ErrMany},
		{"no room, and the Preempts are used up", tight, preempt(13, 1, 17), api.ErrRoom},
	} {
		t.Run(c.name, func(t *testing.T) {
			s, x, first := yard()
			c.change(&s, &x, &first)
			refused(t, c.name, s, x, first, c.m, c.due)
		})
	}
}

// A state that isn't safe is no error ahead of a move: what is looked at is the
// state behind it.
func TestStatesAheadThatAreNotSafe(t *testing.T) { // P12.1, P12.3
	s, x, first := yard()
	full := resized(first, 12, api.Vec{10})
	done(t, "Evict that makes room", s, x, full, evict(12), moved(full, sites{12: 0}))
	refused(t, "Evict of another one", s, x, full, evict(11), api.ErrRoom)
	refused(t, "Place elsewhere", s, x, full, place(13, 4), api.ErrRoom)
	together := moved(first, sites{15: 1})
	done(t, "Shift that parts two", s, x, together, shift(14, 4), used(moved(together, sites{14: 4}), 0, 1))
	refused(t, "Shift of another one", s, x, together, shift(11, 3), api.ErrApart)
	unlike := moved(first, sites{17: 3})
	done(t, "Place that makes zones alike", s, x, unlike, place(19, 1), moved(unlike, sites{19: 1}))
	few := moved(first, sites{20: 0, 21: 0})
	done(t, "Place of one that is needed", s, x, few, place(20, 1), moved(few, sites{20: 1}))
	refused(t, "Place of another one", s, x, few, place(13, 4), api.ErrFew)
	many := moved(first, sites{22: 4})
	done(t, "Evict of one too many", s, x, many, evict(21), moved(many, sites{21: 0}))
	spent := used(first, 3, 0)
	for _, m := range []api.Move{place(13, 3), evict(11), shift(11, 3), preempt(13, 1, 11)} {
		refused(t, "Preempts that are used up already", s, x, spent, m, api.ErrBudget)
		refused(t, "Shifts that are used up already", s, x, used(first, 0, 3), m, api.ErrBudget)
	}
	refused(t, "two things, of which an Evict mends the first", s, x, used(full, 3, 0), evict(12), api.ErrBudget)
}

// The pods are the state's, not the snapshot's; nor does Do ask whether a
// snapshot or a spec may be.
func TestWhatDoDoesNotAskFor(t *testing.T) { // P12.1, P1
	s, x, first := yard()
	due := moved(first, sites{13: 3})
	s.Pods = nil
	done(t, "no pods in the snapshot", s, x, first, place(13, 3), due)
	s.Pods = []api.Pod{{Id: 13, Node: 3, Req: api.Vec{99}}}
	done(t, "other pods in the snapshot", s, x, first, place(13, 3), due)
	slices.Reverse(s.Nodes)
	slices.Reverse(s.Loads)
	done(t, "a snapshot that is turned", s, x, first, place(13, 3), due)
	x.Preempts, x.Shifts = 1000, 1000
	done(t, "budgets that are too great", s, x, used(first, 500, 500), shift(11, 3), used(moved(first, sites{11: 3}), 500, 501))
	x.Wants = []api.Want{{Pod: 99, Stay: true}, {Pod: 13, Stay: true, Req: api.Vec{1}}, {Pod: 13, Req: api.Vec{7}}}
	done(t, "wants that may not be", s, x, first, place(13, 3), resized(due, 13, api.Vec{1}))
	refused(t, "no snapshot", api.Snapshot{}, x, first, place(13, 3), api.ErrNone)
	refused(t, "nothing at all", api.Snapshot{}, api.Spec{}, api.State{}, api.Move{}, api.ErrArg)
	refused(t, "no pods", s, x, api.State{}, place(13, 3), api.ErrNone)
	refused(t, "budgets below 0", s, api.Spec{Preempts: -1}, first, evict(11), api.ErrBudget)
	done(t, "what was used, below 0", s, api.Spec{}, used(first, math.MinInt, math.MinInt), shift(11, 3), used(moved(first, sites{11: 3}), math.MinInt, math.MinInt+1))
}

// Of several pods of one Id the first one is moved, as in layer 5; all of them
// are looked at.
func TestIdsThatAreThereTwice(t *testing.T) { // P12.1, P1
	s := api.Snapshot{Nodes: []api.Node{{Id: 1, Cap: api.Vec{3}}, {Id: 1, Cap: api.Vec{9}}, {Id: 2, Cap: api.Vec{9}}}}
	at := api.State{Pods: []api.Pod{{Id: 5, Prio: 1, Req: api.Vec{1}}, {Id: 5, Prio: 9, Req: api.Vec{2}, Node: 1}, {Id: 6, Prio: 2, Req: api.Vec{2}}}}
	behind := at
	behind.Pods = slices.Clone(at.Pods)
	behind.Pods[0].Node = 1
	done(t, "Place", s, api.Spec{}, at, place(5, 1), behind)
	refused(t, "Evict", s, api.Spec{}, at, evict(5), api.ErrState)
	refused(t, "no room at the first node of the Id", s, api.Spec{}, at, place(6, 1), api.ErrRoom)
	last := api.State{Pods: slices.Clone(behind.Pods), Preempts: 1}
	last.Pods[0].Node, last.Pods[1].Node, last.Pods[2].Node = 0, 2, 1
	ahead := api.State{Pods: slices.Clone(behind.Pods)}
	ahead.Pods[1].Node = 2
	done(t, "Preempt", s, api.Spec{Preempts: 1}, ahead, preempt(6, 1, 5), last)
}

// walked holds Walk against what is due.
func walked(t *testing.T, name string, s api.Snapshot, x api.Spec, l []api.Move, due api.State, many int, dueErr error) {
	t.Helper()
	for range 2 {
		got, n, err := Walk(s, x, l)
		if !reflect.DeepEqual(err, dueErr) {
			t.Errorf("%s: %v (%T), want %v (%T)", name, err, err, dueErr, dueErr)
		}
		if !slices.Equal(got.Pods, due.Pods) || got.Preempts != due.Preempts || got.Shifts != due.Shifts || n != many {
			t.Errorf("%s: %v, %d, want %v, %d", name, got, n, due, many)
		}
	}
}

// route are moves of all kinds that are all done, and the states ahead of and
// behind them.
func route() ([]api.Move, []api.State) {
	_, _, first := yard()
	states := []api.State{first}
	add := func(to sites, preempts, shifts int) {
		states = append(states, used(moved(states[len(states)-1], to), preempts, shifts))
	}
	add(sites{13: 1, 11: 0}, 1, 0)
	add(sites{11: 4}, 0, 0)
	add(sites{12: 1}, 0, 1)
	add(sites{13: 0}, 0, 0)
	add(sites{22: 4, 20: 0}, 1, 0)
	add(sites{13: 3}, 0, 0)
	add(sites{18: 4}, 0, 1)
	return []api.Move{preempt(13, 1, 11), place(11, 4), shift(12, 1), evict(13), preempt(22, 4, 20), place(13, 3), shift(18, 4)}, states
}

// The document's example: no moves, the first state.
func TestTheExample(t *testing.T) { // P12.1
	s, x, first := yard()
	walked(t, "nil", s, x, nil, first, 0, nil)
	walked(t, "an empty list", s, x, []api.Move{}, first, 0, nil)
	walked(t, "the beginning of a list", s, x, []api.Move{evict(11), evict(12)}[:0], first, 0, nil)
	s = api.Snapshot{Nodes: []api.Node{{Id: 1, Zone: 1}}}
	walked(t, "no pods", s, api.Spec{}, nil, api.State{}, 0, nil)
}

// A snapshot or a spec that may not be: layer 3's error, as it tells it.
func TestWalksOfThoseThatMayNotBe(t *testing.T) { // P12.1, R1, R3
	for _, c := range []struct {
		name   string
		change func(s *api.Snapshot, x *api.Spec)
		due    error
	}{
		{"no nodes", func(s *api.Snapshot, _ *api.Spec) { s.Nodes = nil }, api.ErrLarge},
		{"nothing", func(s *api.Snapshot, x *api.Spec) { *s, *x = api.Snapshot{}, api.Spec{} }, api.ErrLarge},
		{"too many pods", func(s *api.Snapshot, _ *api.Spec) { s.Pods = append(s.Pods, api.Pod{Id: 23, Load: 5}) }, api.ErrLarge},
		{"a node of Id 0", func(s *api.Snapshot, _ *api.Spec) { s.Nodes[0].Id = 0 }, &api.Spot{At: 0, Err: api.ErrArg}},
		{"a load that is there twice", func(s *api.Snapshot, _ *api.Spec) { s.Loads[1].Id = 5 }, &api.Spot{At: 4, Err: api.ErrTwice}},
		{"a pod of no load", func(s *api.Snapshot, _ *api.Spec) { s.Pods[11].Load = 9 }, &api.Spot{At: 18, Err: api.ErrNone}},
		{"a pod at no node", func(s *api.Snapshot, _ *api.Spec) { s.Pods[0].Node = 2 }, &api.Spot{At: 7, Err: api.ErrNone}},
		{"too great a budget", func(_ *api.Snapshot, x *api.Spec) { x.Preempts = api.MaxMoves + 1 }, api.ErrLarge},
		{"a budget below 0", func(_ *api.Snapshot, x *api.Spec) { x.Shifts = -1 }, api.ErrLarge},
		{"a want of no pod", func(_ *api.Snapshot, x *api.Spec) { x.Wants = []api.Want{{Pod: 11}, {Pod: 99}} }, &api.Spot{At: 1, Err: api.ErrNone}},
		{"a want that is there twice", func(_ *api.Snapshot, x *api.Spec) { x.Wants = []api.Want{{Pod: 11}, {Pod: 11}} }, &api.Spot{At: 1, Err: api.ErrTwice}},
		{"a want of nowhere with Req", func(_ *api.Snapshot, x *api.Spec) { x.Wants = []api.Want{{Pod: 11, Req: api.Vec{1}}} }, &api.Spot{At: 0, Err: api.ErrArg}},
	} {
		t.Run(c.name, func(t *testing.T) {
			l, _ := route()
			for _, full := range []bool{false, true} { // and if the first state isn't safe, too
				for _, moves := range [][]api.Move{nil, l, {{}}} {
					s, x, _ := yard()
					if full {
						s.Pods[1].Req[0] = 10
					}
					c.change(&s, &x)
					walked(t, c.name, s, x, moves, api.State{}, 0, c.due)
					if err := cluster.Fair(s, x); !reflect.DeepEqual(err, c.due) {
						t.Errorf("cluster.Fair tells %v", err)
					}
				}
			}
		})
	}
}

// A first state that isn't safe: its Code alone, whatever the moves are. (Of
// one that may be nothing of the budgets was used.)
func TestWalksFromWhatIsNotSafe(t *testing.T) { // P12.1, R1, R3
	for _, c := range []struct {
		name   string
		change func(s *api.Snapshot)
		mends  api.Move // it would make the state safe
		due    api.Code
	}{
		{"no room", func(s *api.Snapshot) { s.Pods[1].Req[0] = 10 }, evict(12), api.ErrRoom},
		{"a sum that goes over", func(s *api.Snapshot) { s.Pods[0].Req[3], s.Pods[6].Req[3] = 1<<63, 1<<63 }, evict(11), api.ErrOver},
		{"two together", func(s *api.Snapshot) { s.Pods[3].Node = 3 }, shift(14, 4), api.ErrApart},
		{"zones too unlike", func(s *api.Snapshot) { s.Pods[6].Node = 4 }, place(19, 1), api.ErrSpread},
		{"too few", func(s *api.Snapshot) { s.Pods[9].Node, s.Pods[10].Node = 0, 0 }, place(20, 4), api.ErrFew},
		{"too many", func(s *api.Snapshot) { s.Pods[11].Node = 4 }, evict(22), api.ErrMany},
		{"no room, and too many", func(s *api.Snapshot) { s.Pods[11] = api.Pod{Id: 22, Load: 8, Node: 4, Req: api.Vec{7}} }, evict(22), api.ErrRoom},
		{"two together, and too few", func(s *api.Snapshot) { s.Loads[3].Min, s.Loads[3].Max, s.Pods[3].Node = 9, 9, 3 }, evict(14), api.ErrApart},
	} {
		t.Run(c.name, func(t *testing.T) {
			s, x, _ := yard()
			c.change(&s)
			if err := cluster.Fair(s, x); err != nil {
				t.Fatal(err)
			}
			l, _ := route()
			for _, moves := range [][]api.Move{nil, {}, {c.mends}, l, {{}}} {
				walked(t, c.name, s, x, moves, api.State{}, 0, c.due)
			}
		})
	}
}

// Moves that are all done, and each beginning of them: the last state, and how
// many. Behind each of them the state is safe.
func TestWalksToTheEnd(t *testing.T) { // P12.1, P12.3
	s, x, _ := yard()
	l, states := route()
	for n := range len(l) + 1 {
		walked(t, "a walk", s, x, l[:n], states[n], n, nil) // what lies behind a list's end is none of it
		walked(t, "a walk of a list of its own", s, x, slices.Clone(l[:n]), states[n], n, nil)
		if err := safe.Why(s, x, states[n]); err != nil {
			t.Errorf("behind %d moves: %v", n, err)
		}
		if n < len(l) {
			done(t, "a move of the walk", s, x, states[n], l[n], states[n+1])
		}
	}
}

// The first move, a later one and the last one has an error: the state ahead of
// it, how many were done, and its error. Moves behind it aren't done.
func TestWalksThatStop(t *testing.T) { // P12.1, P12.3
	s, x, _ := yard()
	l, states := route()
	for _, c := range []struct {
		name string
		m    api.Move // it has this error in each of the states
		due  api.Code
	}{
		{"no kind", api.Move{Kind: 5, Pod: 11}, api.ErrArg},
		{"Evict of no pod", evict(99), api.ErrNone},
		{"Place of one that is somewhere", place(14, 4), api.ErrState},
		{"Preempt over one of its Prio", preempt(16, 3, 15), api.ErrPrio},
		{"Shift to where its like is", shift(14, 3), api.ErrApart},
		{"Shift of one whose zone is left empty", shift(17, 3), api.ErrSpread},
	} {
		t.Run(c.name, func(t *testing.T) {
			for n := range len(l) + 1 {
				moves := append(slices.Clone(l[:n]), c.m)
				walked(t, c.name+", the last one", s, x, moves, states[n], n, c.due)
				walked(t, c.name+", and moves behind it", s, x, append(moves, l[n:]...), states[n], n, c.due)
				walked(t, c.name+", and the same one behind it", s, x, append(moves, c.m, evict(14)), states[n], n, c.due)
				refused(t, c.name, s, x, states[n], c.m, c.due)
			}
		})
	}
}

// Errors that are due only because of the moves done ahead.
func TestWalksThatUseUp(t *testing.T) { // P12.1, P12.3
	s, x, first := yard()
	to := moved(first, sites{11: 3})
	walked(t, "a third Shift", s, x, []api.Move{shift(11, 3), shift(11, 1), shift(11, 4), evict(11)}, used(first, 0, 2), 2, api.ErrBudget)
	walked(t, "a Shift, and the same once more", s, x, []api.Move{shift(11, 3), shift(11, 3)}, used(to, 0, 1), 1, api.ErrState)
	walked(t, "a third Preempt", s, x, []api.Move{preempt(13, 1, 11), evict(13), place(11, 1), preempt(13, 1, 11), evict(13), place(11, 1), preempt(13, 1, 11), evict(12)}, used(first, 2, 0), 6, api.ErrBudget)
	walked(t, "Evict twice", s, x, []api.Move{evict(11), evict(11)}, moved(first, sites{11: 0}), 1, api.ErrState)
	walked(t, "Place twice", s, x, []api.Move{place(13, 3), place(13, 3)}, moved(first, sites{13: 3}), 1, api.ErrState)
	walked(t, "Evict of the last but one, and of the last one", s, x, []api.Move{evict(20), evict(21), place(20, 1)}, moved(first, sites{20: 0}), 1, api.ErrFew)
	walked(t, "room that is taken", s, x, []api.Move{place(13, 3), shift(11, 3), evict(13)}, moved(first, sites{13: 3}), 1, api.ErrRoom)
	walked(t, "room that is made", s, x, []api.Move{evict(11), place(13, 1)}, moved(first, sites{11: 0, 13: 1}), 2, nil)
	x.Preempts, x.Shifts = 0, 0
	walked(t, "no budgets", s, x, []api.Move{place(13, 3), shift(11, 4)}, moved(first, sites{13: 3}), 1, api.ErrBudget)
}

// A walk has no end of its own: lists far longer than a plan may be.
func TestLongWalks(t *testing.T) { // P12.1, P1
	s, x, first := yard()
	var l []api.Move
	for range 3_000 {
		l = append(l, evict(11), place(11, 1))
	}
	walked(t, "long", s, x, l, first, 6_000, nil)
	walked(t, "long, less one", s, x, l[:5_999], moved(first, sites{11: 0}), 5_999, nil)
	walked(t, "long, and one more", s, x, append(l, place(11, 1), evict(11)), first, 6_000, api.ErrState)
}

// Long lists of nodes, loads and pods, that may not be.
func TestLongLists(t *testing.T) { // P12.1, P1
	var s api.Snapshot
	var at api.State
	for i := range 300 {
		s.Nodes = append(s.Nodes, api.Node{Id: i + 1, Zone: i + 1, Cap: api.Vec{1}})
		s.Loads = append(s.Loads, api.Load{Id: i + 1, Apart: true, Skew: 1, Max: 1})
		at.Pods = append(at.Pods, api.Pod{Id: i + 1, Load: i + 1, Prio: i, Req: api.Vec{1}, Node: i})
	}
	x := api.Spec{Preempts: 1, Shifts: 1}
	done(t, "Place", s, x, at, place(1, 300), moved(at, sites{1: 300}))
	done(t, "Evict", s, x, at, evict(300), moved(at, sites{300: 0}))
	done(t, "Shift", s, x, at, shift(300, 300), used(moved(at, sites{300: 300}), 0, 1))
	refused(t, "Preempt", s, x, at, preempt(1, 299, 300), api.ErrPrio)
	refused(t, "no room", s, x, at, shift(300, 1), api.ErrRoom)
	walked(t, "a walk", s, x, []api.Move{place(1, 300)}, api.State{}, 0, api.ErrLarge)
}

// samples is what is handed in, with something behind each list's end.
func samples() (api.Snapshot, api.Spec, api.State, []api.Move) {
	s, x, first := yard()
	x.Wants = []api.Want{{Pod: 11, Stay: true, Req: api.Vec{3}}, {Pod: 12}, {Pod: 13, Stay: true, Req: api.Vec{4}}}
	l, _ := route()
	s.Nodes = append(s.Nodes, api.Node{Id: 77})[:len(s.Nodes)]
	s.Loads = append(s.Loads, api.Load{Id: 77})[:len(s.Loads)]
	s.Pods = append(s.Pods, api.Pod{Id: 77})[:len(s.Pods)]
	x.Wants = append(x.Wants, api.Want{Pod: 77})[:len(x.Wants)]
	first.Pods = append(first.Pods, api.Pod{Id: 77})[:len(first.Pods)]
	return s, x, first, append(l, evict(77))[:len(l)]
}

// whole are all lists up to the ends of what they lie in.
func whole(s api.Snapshot, x api.Spec, t api.State, l []api.Move) []any {
	return []any{
		s.Nodes[:cap(s.Nodes)], s.Loads[:cap(s.Loads)], s.Pods[:cap(s.Pods)],
		x.Wants[:cap(x.Wants)], x.Preempts, x.Shifts,
		t.Pods[:cap(t.Pods)], t.Preempts, t.Shifts,
		l[:cap(l)],
	}
}

func TestHandedInStays(t *testing.T) { // P12.2, R2, R4
	s, x, at, l := samples()
	was := whole(samples())
	stays := func(name string) {
		t.Helper()
		if is := whole(s, x, at, l); !reflect.DeepEqual(is, was) {
			t.Fatalf("%s: it became %v, and was %v", name, is, was)
		}
	}
	many := 0
	for kind := range 6 {
		for pod := 10; pod < 24; pod++ {
			for node := range 5 {
				for _, over := range []int{0, 11, 13, 14, 20} {
					if _, err := Do(s, x, at, api.Move{Kind: kind, Pod: pod, Node: node, Over: over}); err == nil {
						many++
					}
					stays("Do")
				}
			}
		}
	}
	if many < 20 {
		t.Errorf("%d moves were done", many)
	}
	for n := range len(l) + 1 {
		if _, done, err := Walk(s, x, l[:n]); done != n || err != nil {
			t.Errorf("%d moves: %d were done, %v", n, done, err)
		}
		stays("Walk")
	}
	l[3] = api.Move{}
	was = whole(s, x, at, l)
	if _, done, err := Walk(s, x, l); done != 3 || err != error(api.ErrArg) {
		t.Errorf("%d were done, %v", done, err)
	}
	stays("Walk that stops")
	at.Shifts = 9
	was = whole(s, x, at, l)
	if _, err := Do(s, x, at, evict(11)); err != error(api.ErrBudget) {
		t.Error(err)
	}
	stays("Do that is refused")
}

// What is told is new memory: who writes into it changes nothing that was
// handed in, nor what is told next.
func TestWhatIsToldIsNew(t *testing.T) { // R2
	s, x, at, l := samples()
	was := whole(samples())
	spoil := func(t api.State) {
		for i := range t.Pods[:cap(t.Pods)] {
			t.Pods[:cap(t.Pods)][i] = api.Pod{Id: -1}
		}
	}
	for _, m := range []api.Move{place(13, 3), evict(11), shift(11, 3), preempt(13, 1, 11)} {
		got, err := Do(s, x, at, m)
		due, _ := state.Make(s, x, at, m)
		if err != nil || !state.Same(got, due) {
			t.Errorf("%v: %v, %v", m, got, err)
		}
		spoil(got)
		if again, _ := Do(s, x, at, m); !state.Same(again, due) {
			t.Errorf("%v: %v the second time", m, again)
		}
	}
	for _, moves := range [][]api.Move{nil, {{}}, {evict(11), {}}, l} {
		got, _, _ := Walk(s, x, moves)
		due := api.State{Pods: slices.Clone(got.Pods), Preempts: got.Preempts, Shifts: got.Shifts}
		spoil(got)
		if again, _, _ := Walk(s, x, moves); !state.Same(again, due) {
			t.Errorf("%v: %v the second time", moves, again)
		}
	}
	if is := whole(s, x, at, l); !reflect.DeepEqual(is, was) {
		t.Errorf("%v, and it was %v", is, was)
	}
}

// A layer's Spot isn't told, and no Spot is told twice.
func TestErrorsOfTheirOwn(t *testing.T) { // P12.1, R2
	s, x, first := yard()
	var spot *api.Spot
	if err := safe.Why(s, x, moved(first, sites{13: 1})); !errors.As(err, &spot) {
		t.Fatalf("layer 11 tells %v", err)
	}
	if _, err := Do(s, x, first, place(13, 1)); errors.As(err, &spot) {
		t.Errorf("Do tells the place of %v", err)
	}
	s.Nodes[0].Id = 0
	_, _, one := Walk(s, x, nil)
	_, _, other := Walk(s, x, nil)
	if !errors.As(one, &spot) {
		t.Fatalf("Walk tells %v", one)
	}
	spot.At, spot.Err = 99, api.ErrGoal
	if !reflect.DeepEqual(other, error(&api.Spot{At: 0, Err: api.ErrArg})) {
		t.Errorf("the other one became %v", other)
	}
}
