package state

import (
	"errors"
	"math"
	"reflect"
	"slices"
	"testing"

	"dunnage/api"
	"dunnage/cluster"
)

// yard is a snapshot that may be: pods 2 and 5 at node 1, 6 at node 4, 3 and 8
// nowhere. Ids of nodes and pods are partly the same.
func yard() api.Snapshot {
	return api.Snapshot{
		Nodes: []api.Node{{Id: 1, Zone: 1}, {Id: 4, Zone: 2}, {Id: 8, Zone: 2}},
		Loads: []api.Load{{Id: 7, Max: 9}},
		Pods: []api.Pod{
			{Id: 2, Load: 7, Prio: 1, Req: api.Vec{2, 0, 0, 1}, Node: 1},
			{Id: 3, Load: 7, Prio: 9, Req: api.Vec{3, 0, 0, 1}},
			{Id: 5, Load: 7, Prio: 2, Req: api.Vec{5, 0, 0, 1}, Node: 1},
			{Id: 6, Load: 7, Prio: 3, Req: api.Vec{6, 0, 0, 1}, Node: 4},
			{Id: 8, Load: 7, Prio: 8, Req: api.Vec{8, 0, 0, 1}},
		},
	}
}

// wish is a spec that may be with yard.
func wish() api.Spec {
	return api.Spec{
		Preempts: 3,
		Shifts:   4,
		Wants: []api.Want{
			{Pod: 2, Stay: true, Req: api.Vec{20}},
			{Pod: 3, Stay: true, Req: api.Vec{30}},
			{Pod: 5},
		},
	}
}

// used is a state of yard in which something of the budgets was used.
func used() api.State { return api.State{Pods: yard().Pods, Preempts: 10, Shifts: 20} }

func cloneState(t api.State) api.State {
	t.Pods = slices.Clone(t.Pods)
	return t
}

// changed is used with a change.
func changed(change func(t *api.State)) api.State {
	t := used()
	change(&t)
	return t
}

// alike holds a state against the one that is due, whether its list of no
// pods is nil or empty.
func alike(t *testing.T, name string, got, want api.State) {
	t.Helper()
	if !slices.Equal(got.Pods, want.Pods) || got.Preempts != want.Preempts || got.Shifts != want.Shifts {
		t.Errorf("%s: %v, want %v", name, got, want)
	}
}

// refused holds what Make tells against an error itself, with nothing beside
// it.
func refused(t *testing.T, name string, got api.State, err error, want api.Code) {
	t.Helper()
	if err != error(want) {
		t.Errorf("%s: %v (%T), want %v", name, err, err, want)
	}
	if got.Pods != nil || got.Preempts != 0 || got.Shifts != 0 {
		t.Errorf("%s: %v beside an error", name, got)
	}
}

func TestTheSamplesMayBe(t *testing.T) {
	if err := cluster.Fair(yard(), wish()); err != nil {
		t.Error(err)
	}
}

func TestFirst(t *testing.T) { // P5.1
	for _, s := range []api.Snapshot{{}, {Pods: []api.Pod{}}, {Nodes: yard().Nodes, Loads: yard().Loads}} {
		alike(t, "no pods", First(s), api.State{})
	}
	alike(t, "several pods", First(yard()), api.State{Pods: yard().Pods})
	one := yard()
	one.Pods = one.Pods[3:4]
	alike(t, "one pod", First(one), api.State{Pods: yard().Pods[3:4]})
	twice := api.Snapshot{Pods: []api.Pod{{Id: 9, Node: -1}, {Id: 0}, {Id: 9, Req: api.Vec{1}}}}
	alike(t, "pods that may not be", First(twice), api.State{Pods: twice.Pods})
}

func TestPod(t *testing.T) { // P5.1
	state := used()
	for i, p := range state.Pods {
		if got, ok := Pod(state, p.Id); !ok || got != state.Pods[i] {
			t.Errorf("pod %d: %v, %v", p.Id, got, ok)
		}
	}
	for _, id := range []int{0, -1, 1, 4, 7, 9, api.MaxId, api.MaxId + 1, math.MaxInt, math.MinInt} {
		for _, s := range []api.State{state, {}, {Pods: []api.Pod{}, Preempts: 1}} {
			if got, ok := Pod(s, id); ok || got != (api.Pod{}) {
				t.Errorf("pod %d, that isn't there: %v, %v", id, got, ok)
			}
		}
	}
}

func TestPodThatIsThereTwice(t *testing.T) { // P5.1
	state := api.State{Pods: []api.Pod{{Id: 9, Prio: 1}, {Id: 0, Prio: 2}, {Id: 9, Prio: 3}, {Id: -4, Prio: 4}, {Id: 0, Prio: 5}, {Id: -4, Prio: 6}}}
	for id, prio := range map[int]int{9: 1, 0: 2, -4: 4} {
		if got, ok := Pod(state, id); !ok || got != (api.Pod{Id: id, Prio: prio}) {
			t.Errorf("pod %d: %v, %v", id, got, ok)
		}
	}
}

func TestSame(t *testing.T) { // P5.1
	for _, l := range [][]api.State{
		{{}, {Pods: []api.Pod{}}, First(api.Snapshot{})},
		{used(), used(), {Pods: append(yard().Pods, api.Pod{})[:5], Preempts: 10, Shifts: 20}},
		{First(yard()), First(yard())},
		{{Preempts: -1, Shifts: math.MaxInt}, {Preempts: -1, Shifts: math.MaxInt}},
	} {
		for _, a := range l {
			for _, b := range l {
				if !Same(a, b) {
					t.Errorf("%v and %v are told to differ", a, b)
				}
			}
		}
	}
}

func TestStatesThatDifferInOneThing(t *testing.T) { // P5.1
	differ := map[string]func(t *api.State){
		"Preempts":            func(t *api.State) { t.Preempts++ },
		"Shifts":              func(t *api.State) { t.Shifts-- },
		"both exchanged":      func(t *api.State) { t.Preempts, t.Shifts = t.Shifts, t.Preempts },
		"one pod less":        func(t *api.State) { t.Pods = t.Pods[:4] },
		"the first pod less":  func(t *api.State) { t.Pods = t.Pods[1:] },
		"no pods":             func(t *api.State) { t.Pods = nil },
		"one pod more":        func(t *api.State) { t.Pods = append(t.Pods, api.Pod{}) },
		"the last pod twice":  func(t *api.State) { t.Pods = append(t.Pods, t.Pods[4]) },
		"two pods exchanged":  func(t *api.State) { t.Pods[0], t.Pods[1] = t.Pods[1], t.Pods[0] },
		"two Reqs exchanged":  func(t *api.State) { t.Pods[0].Req, t.Pods[1].Req = t.Pods[1].Req, t.Pods[0].Req },
		"pods in other order": func(t *api.State) { slices.Reverse(t.Pods) },
	}
	for i, pod := range []string{"first pod's ", "second pod's ", "", "", "last pod's "} {
		if pod == "" {
			continue
		}
		differ[pod+"Id"] = func(t *api.State) { t.Pods[i].Id++ }
		differ[pod+"Load"] = func(t *api.State) { t.Pods[i].Load++ }
		differ[pod+"Prio"] = func(t *api.State) { t.Pods[i].Prio = -1 }
		differ[pod+"Node"] = func(t *api.State) { t.Pods[i].Node++ }
		differ[pod+"Req 0"] = func(t *api.State) { t.Pods[i].Req[0] = 0 }
		differ[pod+"Req 1"] = func(t *api.State) { t.Pods[i].Req[1]++ }
		differ[pod+"Req 2"] = func(t *api.State) { t.Pods[i].Req[2]-- }
		differ[pod+"Req 3"] = func(t *api.State) { t.Pods[i].Req[3] += 1 << 63 }
	}
	for name, change := range differ {
		a, b := used(), changed(change)
		if Same(a, b) || Same(b, a) {
			t.Errorf("%s: told to be alike", name)
		}
	}
	if Same(api.State{}, api.State{Pods: []api.Pod{{}}}) || Same(api.State{}, api.State{Preempts: 1}) || Same(api.State{}, api.State{Shifts: 1}) {
		t.Error("what isn't the zero state is told to be like it")
	}
}

func TestGoal(t *testing.T) { // P5.1
	stay := func(pod int, req ...uint64) api.Want {
		w := api.Want{Pod: pod, Stay: true}
		copy(w.Req[:], req)
		return w
	}
	gone := func(pod int) api.Want { return api.Want{Pod: pod} }
	for _, c := range []struct {
		name  string
		wants []api.Want
		met   bool
	}{
		{"no wants", nil, true},
		{"an empty list of wants", []api.Want{}, true},
		{"stay: somewhere, with that Req", []api.Want{stay(2, 2, 0, 0, 1)}, true},
		{"stay: somewhere, with another Req", []api.Want{stay(2, 3, 0, 0, 1)}, false},
		{"stay: another Req's second", []api.Want{stay(2, 2, 1, 0, 1)}, false},
		{"stay: another Req's third", []api.Want{stay(2, 2, 0, 1, 1)}, false},
		{"stay: another Req's last", []api.Want{stay(2, 2, 0, 0, 0)}, false},
		{"stay: less", []api.Want{stay(2)}, false},
		{"stay: nowhere, with that Req", []api.Want{stay(3, 3, 0, 0, 1)}, false},
		{"stay: nowhere, with another Req", []api.Want{stay(3)}, false},
		{"stay: not there", []api.Want{stay(4)}, false},
		{"stay: pod 0", []api.Want{stay(0)}, false},
		{"gone: nowhere", []api.Want{gone(3)}, true},
		{"gone: somewhere", []api.Want{gone(2)}, false},
		{"gone: not there", []api.Want{gone(4)}, false},
		{"gone: pod 0", []api.Want{gone(0)}, false},
		{"gone, whatever Req is beside it", []api.Want{{Pod: 3, Req: api.Vec{99}}}, true},
		{"several met", []api.Want{stay(2, 2, 0, 0, 1), gone(3), stay(6, 6, 0, 0, 1), gone(8)}, true},
		{"the first one unmet", []api.Want{gone(2), gone(3), gone(8)}, false},
		{"one in between unmet", []api.Want{gone(3), gone(2), gone(8)}, false},
		{"the last one unmet", []api.Want{gone(3), gone(8), stay(6, 5)}, false},
		{"the last one not there", []api.Want{gone(3), gone(8), gone(9)}, false},
		{"one met, and one of the same pod unmet", []api.Want{gone(3), stay(3, 3, 0, 0, 1)}, false},
		{"one twice, met", []api.Want{gone(8), gone(3), gone(3)}, true},
	} {
		x, state := api.Spec{Wants: c.wants}, used()
		if Goal(x, state) != c.met || Goal(x, state) != c.met {
			t.Errorf("%s: told to be %v", c.name, !c.met)
		}
		if !reflect.DeepEqual(state, used()) {
			t.Errorf("%s: the state became %v", c.name, state)
		}
	}
}

func TestGoalWithoutPods(t *testing.T) { // P5.1
	if !Goal(api.Spec{}, api.State{}) {
		t.Error("no wants and no pods: not met")
	}
	for _, w := range []api.Want{{}, {Stay: true}, {Pod: 1}, {Pod: 1, Stay: true}} {
		if Goal(api.Spec{Wants: []api.Want{w}}, api.State{}) {
			t.Errorf("%v is met of no pods", w)
		}
	}
}

// A want is met of the first pod of its Id, or not at all; and every Node but
// 0 is somewhere.
func TestGoalOfPodsThatMayNotBe(t *testing.T) { // P5.1, P1
	state := api.State{Pods: []api.Pod{{Id: 1, Node: -7}, {Id: 2}, {Id: 2, Node: 1}, {Id: 1}, {Id: 0}}}
	for w, met := range map[api.Want]bool{
		{Pod: 1, Stay: true}: true,
		{Pod: 1}:             false,
		{Pod: 2, Stay: true}: false,
		{Pod: 2}:             true,
		{Pod: 0}:             true,
	} {
		if Goal(api.Spec{Wants: []api.Want{w}}, state) != met {
			t.Errorf("%v: told to be %v", w, !met)
		}
	}
}

// made holds a move that can be made in used against what is due behind it.
func made(t *testing.T, name string, x api.Spec, m api.Move, change func(t *api.State)) {
	t.Helper()
	s, state, spec := yard(), used(), x
	spec.Wants = slices.Clone(x.Wants)
	for range 2 {
		got, err := Make(s, spec, state, m)
		if err != nil {
			t.Errorf("%s: %v", name, err)
			return
		}
		alike(t, name, got, changed(change))
	}
	if !reflect.DeepEqual(s, yard()) || !reflect.DeepEqual(state, used()) || !reflect.DeepEqual(spec, x) {
		t.Errorf("%s: what was handed in has changed", name)
	}
}

func TestMovesThatCanBeMade(t *testing.T) { // P5.2, P5.3, P5.4
	none := api.Spec{}
	made(t, "place", none, api.Move{Kind: api.Place, Pod: 3, Node: 1}, func(t *api.State) { t.Pods[1].Node = 1 })
	made(t, "place the last pod at the last node", none, api.Move{Kind: api.Place, Pod: 8, Node: 8}, func(t *api.State) { t.Pods[4].Node = 8 })
	made(t, "evict", none, api.Move{Kind: api.Evict, Pod: 2}, func(t *api.State) { t.Pods[0].Node = 0 })
	made(t, "evict another one", none, api.Move{Kind: api.Evict, Pod: 6}, func(t *api.State) { t.Pods[3].Node = 0 })
	made(t, "shift", none, api.Move{Kind: api.Shift, Pod: 5, Node: 4}, func(t *api.State) { t.Pods[2].Node = 4; t.Shifts = 21 })
	made(t, "shift to an empty node", none, api.Move{Kind: api.Shift, Pod: 6, Node: 8}, func(t *api.State) { t.Pods[3].Node = 8; t.Shifts = 21 })
	made(t, "preempt", none, api.Move{Kind: api.Preempt, Pod: 3, Node: 1, Over: 2}, func(t *api.State) { t.Pods[1].Node, t.Pods[0].Node, t.Preempts = 1, 0, 11 })
	made(t, "preempt one behind", none, api.Move{Kind: api.Preempt, Pod: 3, Node: 4, Over: 6}, func(t *api.State) { t.Pods[1].Node, t.Pods[3].Node, t.Preempts = 4, 0, 11 })
	made(t, "preempt one ahead", none, api.Move{Kind: api.Preempt, Pod: 8, Node: 1, Over: 5}, func(t *api.State) { t.Pods[4].Node, t.Pods[2].Node, t.Preempts = 1, 0, 11 })
}

// Where there is a want with Stay the pod comes with its Req; the one that
// goes keeps what it has.
func TestTheReqOfAPodThatComes(t *testing.T) { // P5.2, P5.4
	x := wish()
	made(t, "place", x, api.Move{Kind: api.Place, Pod: 3, Node: 1}, func(t *api.State) { t.Pods[1].Node, t.Pods[1].Req = 1, api.Vec{30} })
	made(t, "shift", x, api.Move{Kind: api.Shift, Pod: 2, Node: 8}, func(t *api.State) { t.Pods[0].Node, t.Pods[0].Req, t.Shifts = 8, api.Vec{20}, 21 })
	made(t, "preempt", x, api.Move{Kind: api.Preempt, Pod: 3, Node: 1, Over: 2}, func(t *api.State) {
		t.Pods[1].Node, t.Pods[1].Req, t.Pods[0].Node, t.Preempts = 1, api.Vec{30}, 0, 11
	})
	made(t, "evict", x, api.Move{Kind: api.Evict, Pod: 2}, func(t *api.State) { t.Pods[0].Node = 0 })
	made(t, "shift with a want without Stay", x, api.Move{Kind: api.Shift, Pod: 5, Node: 4}, func(t *api.State) { t.Pods[2].Node, t.Shifts = 4, 21 })
	made(t, "place without a want", x, api.Move{Kind: api.Place, Pod: 8, Node: 4}, func(t *api.State) { t.Pods[4].Node = 4 })
	made(t, "shift without a want", x, api.Move{Kind: api.Shift, Pod: 6, Node: 1}, func(t *api.State) { t.Pods[3].Node, t.Shifts = 1, 21 })
	made(t, "preempt without a want", x, api.Move{Kind: api.Preempt, Pod: 8, Node: 4, Over: 6}, func(t *api.State) { t.Pods[4].Node, t.Pods[3].Node, t.Preempts = 4, 0, 11 })
}

func TestTheReqOfTheFirstOfSeveralWants(t *testing.T) { // P5.2
	place := api.Move{Kind: api.Place, Pod: 3, Node: 4}
	keeps := func(t *api.State) { t.Pods[1].Node = 4 }
	takes := func(req uint64) func(t *api.State) {
		return func(t *api.State) { t.Pods[1].Node, t.Pods[1].Req = 4, api.Vec{req} }
	}
	stay := func(req uint64) api.Want { return api.Want{Pod: 3, Stay: true, Req: api.Vec{req}} }
	gone := api.Want{Pod: 3, Req: api.Vec{55}}
	for _, c := range []struct {
		name   string
		wants  []api.Want
		change func(t *api.State)
	}{
		{"two with Stay", []api.Want{stay(40), stay(41)}, takes(40)},
		{"with Stay, ahead of one without", []api.Want{stay(40), gone}, takes(40)},
		{"without Stay, ahead of one with it", []api.Want{gone, stay(41)}, keeps},
		{"without Stay", []api.Want{gone}, keeps},
		{"with Stay, and no Req", []api.Want{stay(0)}, takes(0)},
		{"another pod's", []api.Want{{Pod: 4, Stay: true, Req: api.Vec{42}}}, keeps},
		{"behind another pod's", []api.Want{{Pod: 4}, stay(43)}, takes(43)},
	} {
		made(t, c.name, api.Spec{Wants: c.wants}, place, c.change)
	}
}

// Its own Req is the one that it has in the state, not that of the snapshot.
func TestItsOwnReq(t *testing.T) { // P5.2
	state := used()
	state.Pods[1].Req = api.Vec{0, 0, 77}
	got, err := Make(yard(), api.Spec{}, state, api.Move{Kind: api.Place, Pod: 3, Node: 4})
	if p, _ := Pod(got, 3); err != nil || p.Req != (api.Vec{0, 0, 77}) {
		t.Error(p, err)
	}
}

// A move that can't be made for one reason, and what is told of it.
type bad struct {
	name string
	move api.Move
	want api.Code
}

func refusals() []bad {
	const far = api.MaxId
	return []bad{
		{"kind 0", api.Move{Kind: 0, Pod: 3, Node: 1}, api.ErrArg},
		{"kind 5", api.Move{Kind: 5, Pod: 3, Node: 1}, api.ErrArg},
		{"kind below 0", api.Move{Kind: -1, Pod: 3, Node: 1}, api.ErrArg},
		{"the least kind", api.Move{Kind: math.MinInt, Pod: 3, Node: 1}, api.ErrArg},
		{"the greatest kind", api.Move{Kind: math.MaxInt, Pod: 3, Node: 1}, api.ErrArg},
		{"no move", api.Move{}, api.ErrArg},
		{"place with Over", api.Move{Kind: api.Place, Pod: 3, Node: 1, Over: 2}, api.ErrArg},
		{"place with Over below 0", api.Move{Kind: api.Place, Pod: 3, Node: 1, Over: -1}, api.ErrArg},
		{"evict with Node", api.Move{Kind: api.Evict, Pod: 2, Node: 1}, api.ErrArg},
		{"evict with Node below 0", api.Move{Kind: api.Evict, Pod: 2, Node: -1}, api.ErrArg},
		{"evict with Over", api.Move{Kind: api.Evict, Pod: 2, Over: 5}, api.ErrArg},
		{"evict with both", api.Move{Kind: api.Evict, Pod: 2, Node: 1, Over: 5}, api.ErrArg},
		{"shift with Over", api.Move{Kind: api.Shift, Pod: 2, Node: 4, Over: 6}, api.ErrArg},
		{"shift with Over that is no pod", api.Move{Kind: api.Shift, Pod: 2, Node: 4, Over: far}, api.ErrArg},

		{"place of no pod", api.Move{Kind: api.Place, Pod: 4, Node: 1}, api.ErrNone},
		{"place of pod 0", api.Move{Kind: api.Place, Node: 1}, api.ErrNone},
		{"place at no node", api.Move{Kind: api.Place, Pod: 3, Node: 2}, api.ErrNone},
		{"place at node 0", api.Move{Kind: api.Place, Pod: 3}, api.ErrNone},
		{"place at a node below 0", api.Move{Kind: api.Place, Pod: 3, Node: -1}, api.ErrNone},
		{"evict of no pod", api.Move{Kind: api.Evict, Pod: 1}, api.ErrNone},
		{"evict of pod 0", api.Move{Kind: api.Evict}, api.ErrNone},
		{"shift of no pod", api.Move{Kind: api.Shift, Pod: -2, Node: 4}, api.ErrNone},
		{"shift to no node", api.Move{Kind: api.Shift, Pod: 2, Node: 5}, api.ErrNone},
		{"shift to node 0", api.Move{Kind: api.Shift, Pod: 2}, api.ErrNone},
		{"preempt of no pod", api.Move{Kind: api.Preempt, Pod: 4, Node: 1, Over: 2}, api.ErrNone},
		{"preempt at no node", api.Move{Kind: api.Preempt, Pod: 3, Node: far, Over: 2}, api.ErrNone},
		{"preempt at node 0", api.Move{Kind: api.Preempt, Pod: 3, Over: 8}, api.ErrNone},
		{"preempt over no pod", api.Move{Kind: api.Preempt, Pod: 3, Node: 1, Over: 1}, api.ErrNone},
		{"preempt over pod 0", api.Move{Kind: api.Preempt, Pod: 3, Node: 1}, api.ErrNone},

		{"place of one that is somewhere", api.Move{Kind: api.Place, Pod: 2, Node: 4}, api.ErrState},
		{"place of one that is there", api.Move{Kind: api.Place, Pod: 2, Node: 1}, api.ErrState},
		{"evict of one that is nowhere", api.Move{Kind: api.Evict, Pod: 3}, api.ErrState},
		{"shift of one that is nowhere", api.Move{Kind: api.Shift, Pod: 3, Node: 4}, api.ErrState},
		{"shift to the same node", api.Move{Kind: api.Shift, Pod: 2, Node: 1}, api.ErrState},
		{"preempt by one that is somewhere", api.Move{Kind: api.Preempt, Pod: 6, Node: 1, Over: 2}, api.ErrState},
		{"preempt by one that is there", api.Move{Kind: api.Preempt, Pod: 5, Node: 1, Over: 2}, api.ErrState},
		{"preempt over one that is elsewhere", api.Move{Kind: api.Preempt, Pod: 3, Node: 4, Over: 2}, api.ErrState},
		{"preempt over one that is nowhere", api.Move{Kind: api.Preempt, Pod: 3, Node: 1, Over: 8}, api.ErrState},
		{"preempt by itself, nowhere", api.Move{Kind: api.Preempt, Pod: 3, Node: 1, Over: 3}, api.ErrState},
		{"preempt by itself, there", api.Move{Kind: api.Preempt, Pod: 2, Node: 1, Over: 2}, api.ErrState},
		{"preempt by one that is somewhere, over one that is elsewhere", api.Move{Kind: api.Preempt, Pod: 6, Node: 8, Over: 2}, api.ErrState},
	}
}

// twoReasons are moves with reasons of two kinds, or two of one kind.
func twoReasons() []bad {
	return []bad{
		{"kind 0, and no pod", api.Move{Kind: 0, Pod: 4, Node: 1}, api.ErrArg},
		{"kind 5, and no node", api.Move{Kind: 5, Pod: 3, Node: 2}, api.ErrArg},
		{"kind 5, and somewhere", api.Move{Kind: 5, Pod: 2, Node: 4}, api.ErrArg},
		{"kind -1, and with Over that isn't there", api.Move{Kind: -1, Pod: 3, Node: 1, Over: 1}, api.ErrArg},
		{"place with Over, and no pod", api.Move{Kind: api.Place, Pod: 4, Node: 1, Over: 2}, api.ErrArg},
		{"place with Over, and no node", api.Move{Kind: api.Place, Pod: 3, Node: 2, Over: 2}, api.ErrArg},
		{"place with Over that isn't there", api.Move{Kind: api.Place, Pod: 3, Node: 1, Over: 1}, api.ErrArg},
		{"place with Over, and somewhere", api.Move{Kind: api.Place, Pod: 2, Node: 4, Over: 6}, api.ErrArg},
		{"evict with Node, and no pod", api.Move{Kind: api.Evict, Pod: 4, Node: 1}, api.ErrArg},
		{"evict with Node that isn't there", api.Move{Kind: api.Evict, Pod: 2, Node: 2}, api.ErrArg},
		{"evict with Node, and nowhere", api.Move{Kind: api.Evict, Pod: 3, Node: 1}, api.ErrArg},
		{"evict with Over, and no pod", api.Move{Kind: api.Evict, Pod: 4, Over: 2}, api.ErrArg},
		{"evict with Over that isn't there", api.Move{Kind: api.Evict, Pod: 2, Over: 1}, api.ErrArg},
		{"evict with Over, and nowhere", api.Move{Kind: api.Evict, Pod: 3, Over: 2}, api.ErrArg},
		{"shift with Over, and no pod", api.Move{Kind: api.Shift, Pod: 4, Node: 1, Over: 2}, api.ErrArg},
		{"shift with Over, and no node", api.Move{Kind: api.Shift, Pod: 2, Node: 2, Over: 2}, api.ErrArg},
		{"shift with Over, and nowhere", api.Move{Kind: api.Shift, Pod: 3, Node: 1, Over: 2}, api.ErrArg},
		{"shift with Over, and to the same node", api.Move{Kind: api.Shift, Pod: 2, Node: 1, Over: 5}, api.ErrArg},

		{"place of no pod at no node", api.Move{Kind: api.Place, Pod: 4, Node: 2}, api.ErrNone},
		{"place at no node, and somewhere", api.Move{Kind: api.Place, Pod: 2, Node: 2}, api.ErrNone},
		{"shift of no pod to no node", api.Move{Kind: api.Shift, Pod: 4, Node: 2}, api.ErrNone},
		{"shift to no node, and nowhere", api.Move{Kind: api.Shift, Pod: 3, Node: 2}, api.ErrNone},
		{"preempt of no pod at no node", api.Move{Kind: api.Preempt, Pod: 4, Node: 2, Over: 2}, api.ErrNone},
		{"preempt of no pod over itself", api.Move{Kind: api.Preempt, Pod: 4, Node: 1, Over: 4}, api.ErrNone},
		{"preempt of no pod over one that is elsewhere", api.Move{Kind: api.Preempt, Pod: 4, Node: 4, Over: 2}, api.ErrNone},
		{"preempt at no node, and somewhere", api.Move{Kind: api.Preempt, Pod: 6, Node: 2, Over: 2}, api.ErrNone},
		{"preempt at no node, by itself", api.Move{Kind: api.Preempt, Pod: 3, Node: 2, Over: 3}, api.ErrNone},
		{"preempt over no pod, and somewhere", api.Move{Kind: api.Preempt, Pod: 6, Node: 1, Over: 1}, api.ErrNone},
		{"preempt over no pod, at no node", api.Move{Kind: api.Preempt, Pod: 3, Node: 2, Over: 1}, api.ErrNone},
	}
}

func TestMovesThatCanNotBeMade(t *testing.T) { // P5.2, P5.3, R1, R3
	for _, c := range append(refusals(), twoReasons()...) {
		s, x, state := yard(), wish(), used()
		for range 2 {
			got, err := Make(s, x, state, c.move)
			refused(t, c.name, got, err, c.want)
			if !errors.Is(err, c.want) {
				t.Errorf("%s: %v isn't %v", c.name, err, c.want)
			}
		}
		if !reflect.DeepEqual(s, yard()) || !reflect.DeepEqual(x, wish()) || !reflect.DeepEqual(state, used()) {
			t.Errorf("%s: what was handed in has changed", c.name)
		}
	}
}

// Where a node is not there for layer 3 it isn't there, though a pod is said
// to be at it; and a snapshot's pods are not the state's.
func TestWhoIsThere(t *testing.T) { // P5.2
	state := api.State{Pods: []api.Pod{{Id: 1, Node: 9}, {Id: 2}}}
	s := api.Snapshot{Nodes: []api.Node{{Id: 1, Zone: 1}}, Pods: []api.Pod{{Id: 3}, {Id: 4, Node: 1}}}
	for _, c := range []bad{
		{"place at a node that a pod is at", api.Move{Kind: api.Place, Pod: 2, Node: 9}, api.ErrNone},
		{"preempt at a node that a pod is at", api.Move{Kind: api.Preempt, Pod: 2, Node: 9, Over: 1}, api.ErrNone},
		{"place of the snapshot's pod", api.Move{Kind: api.Place, Pod: 3, Node: 1}, api.ErrNone},
		{"preempt over the snapshot's pod", api.Move{Kind: api.Preempt, Pod: 2, Node: 1, Over: 4}, api.ErrNone},
	} {
		got, err := Make(s, api.Spec{}, state, c.move)
		refused(t, c.name, got, err, c.want)
	}
	got, err := Make(s, api.Spec{}, state, api.Move{Kind: api.Shift, Pod: 1, Node: 1})
	if err != nil || got.Pods[0].Node != 1 || got.Shifts != 1 {
		t.Error("shift from a node that isn't there:", got, err)
	}
	got, err = Make(api.Snapshot{}, api.Spec{}, state, api.Move{Kind: api.Evict, Pod: 1})
	if err != nil || got.Pods[0].Node != 0 {
		t.Error("evict, with no nodes:", got, err)
	}
}

func TestNoPods(t *testing.T) { // P5.2, the chapter's example
	for kind := api.Place; kind <= api.Preempt; kind++ {
		m := api.Move{Kind: kind, Pod: 1, Node: 1}
		if kind == api.Evict {
			m.Node = 0
		}
		for _, s := range []api.Snapshot{{}, {Nodes: yard().Nodes}} {
			got, err := Make(s, api.Spec{}, First(s), m)
			refused(t, "no pods", got, err, api.ErrNone)
		}
	}
}

// Of pods with one Id the first one is meant, of Pod and of Over, and the
// others stay as they are.
func TestPodsOfOneId(t *testing.T) { // P5.2, P5.4, P1
	s := api.Snapshot{Nodes: []api.Node{{Id: 1}, {Id: 2}}}
	state := api.State{Pods: []api.Pod{{Id: 5}, {Id: 6, Node: 1}, {Id: 5, Node: 2}, {Id: 6, Node: 2}}}
	got, err := Make(s, api.Spec{}, state, api.Move{Kind: api.Preempt, Pod: 5, Node: 1, Over: 6})
	want := api.State{Pods: []api.Pod{{Id: 5, Node: 1}, {Id: 6}, {Id: 5, Node: 2}, {Id: 6, Node: 2}}, Preempts: 1}
	if err != nil || !reflect.DeepEqual(got, want) {
		t.Errorf("%v, %v, want %v", got, err, want)
	}
	got, err = Make(s, api.Spec{}, state, api.Move{Kind: api.Preempt, Pod: 5, Node: 2, Over: 6})
	refused(t, "over the first one, that is elsewhere", got, err, api.ErrState)
	got, err = Make(s, api.Spec{}, state, api.Move{Kind: api.Evict, Pod: 5})
	refused(t, "evict of the first one, that is nowhere", got, err, api.ErrState)
}

// What was used may be any number; one more is told, with wrap-round.
func TestWhatWasUsedAtTheEdge(t *testing.T) { // P1
	for _, many := range []int{-1, api.MaxMoves, math.MaxInt, math.MinInt} {
		state := used()
		state.Preempts, state.Shifts = many, many
		got, err := Make(yard(), wish(), state, api.Move{Kind: api.Shift, Pod: 6, Node: 1})
		if err != nil || got.Preempts != many || got.Shifts != many+1 {
			t.Error(many, got, err)
		}
		got, err = Make(yard(), wish(), state, api.Move{Kind: api.Preempt, Pod: 3, Node: 4, Over: 6})
		if err != nil || got.Preempts != many+1 || got.Shifts != many {
			t.Error(many, got, err)
		}
	}
}

func TestPlacedAndEvicted(t *testing.T) { // P5.4
	for _, x := range []api.Spec{{}, wish()} {
		for _, n := range yard().Nodes {
			there, err := Make(yard(), x, used(), api.Move{Kind: api.Place, Pod: 3, Node: n.Id})
			if err != nil || there.Pods[1].Node != n.Id {
				t.Fatal(there, err)
			}
			again, err := Make(yard(), x, there, api.Move{Kind: api.Evict, Pod: 3})
			if err != nil || again.Pods[1].Node != 0 {
				t.Fatal(again, err)
			}
			again.Pods[1].Req = used().Pods[1].Req
			if !Same(again, used()) {
				t.Errorf("placed at %d and evicted: %v", n.Id, again)
			}
		}
	}
}

func TestWhatIsToldIsNewMemory(t *testing.T) { // P5.3, R2
	s := yard()
	first := First(s)
	spoil(first)
	if !reflect.DeepEqual(s, yard()) {
		t.Error("First told the snapshot's own pods")
	}
	alike(t, "First, once more", First(s), api.State{Pods: yard().Pods})
	for _, m := range []api.Move{
		{Kind: api.Place, Pod: 3, Node: 1},
		{Kind: api.Evict, Pod: 2},
		{Kind: api.Shift, Pod: 2, Node: 4},
		{Kind: api.Preempt, Pod: 3, Node: 1, Over: 2},
	} {
		state := used()
		one, _ := Make(s, wish(), state, m)
		two, _ := Make(s, wish(), state, m)
		was := cloneState(two)
		spoil(one)
		alike(t, "the state behind, once more", two, was)
		alike(t, "the state ahead", state, used())
		spoil(state)
		alike(t, "the state behind a spoiled one", two, was)
	}
}

// spoil overwrites a state's pods, and all that its memory has behind them.
func spoil(t api.State) {
	l := t.Pods[:cap(t.Pods)]
	for i := range l {
		l[i] = api.Pod{Id: -9, Node: -9}
	}
}

// What lies behind a list's end, within its memory, is neither told nor
// changed.
func TestWhatLiesBehindAList(t *testing.T) { // P5.3
	behind := api.Pod{Id: 99, Node: 1}
	s := yard()
	s.Pods = append(s.Pods, behind)[:5]
	if p, ok := Pod(First(s), 99); ok {
		t.Error("First told the pod behind:", p)
	}
	first := First(s)
	_ = append(first.Pods, api.Pod{Id: 100})
	state := api.State{Pods: s.Pods}
	if _, ok := Pod(state, 99); ok {
		t.Error("Pod told the one behind")
	}
	got, err := Make(s, api.Spec{}, state, api.Move{Kind: api.Evict, Pod: 99})
	refused(t, "evict of the one behind", got, err, api.ErrNone)
	got, _ = Make(s, api.Spec{}, state, api.Move{Kind: api.Place, Pod: 3, Node: 1})
	_ = append(got.Pods, api.Pod{Id: 100})
	if p := s.Pods[:6][5]; p != behind {
		t.Errorf("the pod behind became %v", p)
	}
}
