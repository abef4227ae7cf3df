package apart

import (
	"errors"
	"math"
	"reflect"
	"slices"
	"testing"

	"dunnage/api"
	"dunnage/cluster"
	"dunnage/state"
)

// yard is a snapshot that may be: loads 5 and 8 have Apart, load 6 hasn't; load
// 7 isn't there. No two of its pods clash.
func yard() api.Snapshot {
	return api.Snapshot{
		Nodes: []api.Node{{Id: 1, Zone: 1}, {Id: 3, Zone: 1}, {Id: 4, Zone: 2}},
		Loads: []api.Load{{Id: 5, Apart: true, Max: 9}, {Id: 6, Max: 9}, {Id: 8, Apart: true, Max: 9}},
		Pods: []api.Pod{
			{Id: 11, Load: 5, Node: 1},
			{Id: 12, Load: 6, Node: 1},
			{Id: 13, Load: 6, Node: 1},
			{Id: 14, Load: 8, Node: 1},
			{Id: 15, Load: 5, Node: 3},
			{Id: 16, Load: 5},
			{Id: 17, Load: 5},
			{Id: 18, Load: 8, Node: 4},
		},
	}
}

// loadAndNode is what matters of a pod.
type loadAndNode struct{ load, node int }

// pods are some of Ids 11, 12 and so on.
func pods(each ...loadAndNode) api.State {
	var t api.State
	for i, e := range each {
		t.Pods = append(t.Pods, api.Pod{Id: 11 + i, Load: e.load, Node: e.node})
	}
	return t
}

// clashes holds Clash of each pod of a state against the Id that is due.
func clashes(t *testing.T, name string, s api.Snapshot, state api.State, due ...int) {
	t.Helper()
	if len(due) != len(state.Pods) {
		t.Fatalf("%s: %d pods, and %d Ids are due", name, len(state.Pods), len(due))
	}
	for i, p := range state.Pods {
		for range 2 {
			if id := Clash(s, state, p.Id); id != due[i] {
				t.Errorf("%s: Clash of %d: %d, want %d", name, p.Id, id, due[i])
			}
		}
	}
}

// none holds that no two clash.
func none(t *testing.T, name string, s api.Snapshot, state api.State) {
	t.Helper()
	for range 2 {
		if err := Check(s, state); err != nil {
			t.Errorf("%s: Check: %v", name, err)
		}
	}
	clashes(t, name, s, state, make([]int, len(state.Pods))...)
}

// faulty holds what Check tells against a Spot.
func faulty(t *testing.T, name string, s api.Snapshot, state api.State, place int) {
	t.Helper()
	for range 2 {
		err := Check(s, state)
		if !reflect.DeepEqual(err, error(&api.Spot{At: place, Err: api.ErrApart})) {
			t.Errorf("%s: Check: %v (%T), want %v at %d", name, err, err, api.ErrApart, place)
		}
		if !errors.Is(err, api.ErrApart) {
			t.Errorf("%s: %v isn't %v", name, err, api.ErrApart)
		}
	}
}

func TestTheSampleMayBe(t *testing.T) {
	if err := cluster.Check(yard()); err != nil {
		t.Error(err)
	}
}

func TestNoneClashes(t *testing.T) { // P7.1
	for _, c := range []struct {
		name  string
		state api.State
	}{
		{"no pods", api.State{}}, // the document's example
		{"an empty list", api.State{Pods: []api.Pod{}}},
		{"the sample", state.First(yard())},
		{"one alone", pods(loadAndNode{5, 1})},
		{"one alone at its node", pods(loadAndNode{5, 1}, loadAndNode{5, 3}, loadAndNode{5, 4})},
		{"pods of other loads at the node", pods(loadAndNode{5, 1}, loadAndNode{8, 1}, loadAndNode{6, 1}, loadAndNode{7, 1})},
		{"a load that hasn't Apart", pods(loadAndNode{6, 1}, loadAndNode{6, 1}, loadAndNode{6, 1})},
		{"a load that isn't there", pods(loadAndNode{7, 1}, loadAndNode{7, 1}, loadAndNode{7, 1})},
		{"a load of Id 0", pods(loadAndNode{0, 1}, loadAndNode{0, 1})},
		{"a load below 0", pods(loadAndNode{-5, 1}, loadAndNode{-5, 1})},
		{"nowhere", pods(loadAndNode{5, 0}, loadAndNode{5, 0}, loadAndNode{5, 0})},
		{"one nowhere", pods(loadAndNode{5, 0}, loadAndNode{5, 1})},
		{"one nowhere behind", pods(loadAndNode{5, 1}, loadAndNode{5, 0})},
		{"places and Ids that are alike", pods(loadAndNode{5, 8}, loadAndNode{8, 5})},
	} {
		none(t, c.name, yard(), c.state)
		none(t, c.name+", of no cluster", api.Snapshot{}, c.state)
	}
}

func TestClashOfAPodThatIsNotThere(t *testing.T) { // P7.1
	together := pods(loadAndNode{5, 1}, loadAndNode{5, 1})
	for _, pod := range []int{0, 1, 5, 10, 13, -11, -1, api.MaxId, math.MaxInt, math.MinInt} {
		for name, state := range map[string]api.State{
			"no pods":        {},
			"two that clash": together,
			"one":            pods(loadAndNode{5, 1}),
			"pods nowhere":   pods(loadAndNode{5, 0}, loadAndNode{0, 0}),
		} {
			for _, s := range []api.Snapshot{{}, yard()} {
				if id := Clash(s, state, pod); id != 0 {
					t.Errorf("Clash of %d, %s: %d", pod, name, id)
				}
			}
		}
	}
}

// A pod of the snapshot alone is none of the state, and the pods' loads and
// nodes are those of the state.
func TestTheStatesPodsCount(t *testing.T) { // P7.1
	s := yard()
	for i := range s.Pods {
		s.Pods[i].Load, s.Pods[i].Node = 5, 1
	}
	none(t, "no pods", s, api.State{})
	none(t, "pods elsewhere", s, state.First(yard()))
	for _, p := range s.Pods {
		if id := Clash(s, api.State{}, p.Id); id != 0 {
			t.Errorf("Clash of %d: %d", p.Id, id)
		}
	}
	s.Pods = nil
	both := pods(loadAndNode{5, 1}, loadAndNode{5, 1})
	clashes(t, "no pods in the snapshot", s, both, 12, 11)
	faulty(t, "no pods in the snapshot", s, both, 1)
}

func TestClash(t *testing.T) { // P7.1
	for _, c := range []struct {
		name  string
		state api.State
		due   []int
		place int
	}{
		{"two", pods(loadAndNode{5, 1}, loadAndNode{5, 1}), []int{12, 11}, 1},
		{"two of the other load", pods(loadAndNode{8, 4}, loadAndNode{8, 4}), []int{12, 11}, 1},
		{"three", pods(loadAndNode{5, 3}, loadAndNode{5, 3}, loadAndNode{5, 3}), []int{12, 11, 11}, 1},
		{"the last two", pods(loadAndNode{5, 3}, loadAndNode{5, 1}, loadAndNode{5, 1}), []int{0, 13, 12}, 2},
		{"the first one and the last one", pods(loadAndNode{5, 1}, loadAndNode{6, 1}, loadAndNode{5, 0}, loadAndNode{5, 1}), []int{14, 0, 0, 11}, 3},
		{"several, behind some of other loads", pods(loadAndNode{8, 1}, loadAndNode{6, 1}, loadAndNode{5, 1}, loadAndNode{7, 1}, loadAndNode{5, 1}, loadAndNode{5, 1}), []int{0, 0, 15, 0, 13, 13}, 4},
		{"pairs one behind the other", pods(loadAndNode{5, 1}, loadAndNode{5, 1}, loadAndNode{8, 3}, loadAndNode{8, 3}), []int{12, 11, 14, 13}, 1},
		{"a pair within another one", pods(loadAndNode{5, 1}, loadAndNode{8, 3}, loadAndNode{8, 3}, loadAndNode{5, 1}), []int{14, 13, 12, 11}, 2},
		{"pairs that cross", pods(loadAndNode{8, 1}, loadAndNode{5, 1}, loadAndNode{8, 1}, loadAndNode{5, 1}), []int{13, 14, 11, 12}, 2},
		{"pairs of one load", pods(loadAndNode{5, 3}, loadAndNode{5, 1}, loadAndNode{5, 1}, loadAndNode{5, 3}), []int{14, 13, 12, 11}, 2},
		{"beside pods nowhere", pods(loadAndNode{5, 0}, loadAndNode{5, 0}, loadAndNode{5, 4}, loadAndNode{5, 0}, loadAndNode{5, 4}), []int{0, 0, 15, 0, 13}, 4},
		{"beside pods whose load hasn't Apart", pods(loadAndNode{6, 1}, loadAndNode{6, 1}, loadAndNode{5, 1}, loadAndNode{5, 1}), []int{0, 0, 14, 13}, 3},
	} {
		clashes(t, c.name, yard(), c.state, c.due...)
		faulty(t, c.name, yard(), c.state, c.place)
		none(t, c.name+", of no cluster", api.Snapshot{}, c.state)
	}
}

// Two at each two places of a long list, and alone there.
func TestTwoAtAllPlaces(t *testing.T) { // P7.1
	for _, many := range []int{2, api.MaxPods, 40} {
		for i := range many {
			for k := i + 1; k < many; k++ {
				state := pods(slices.Repeat([]loadAndNode{{6, 3}}, many)...)
				state.Pods[i].Load, state.Pods[k].Load = 5, 5
				due := make([]int, many)
				due[i], due[k] = state.Pods[k].Id, state.Pods[i].Id
				clashes(t, "two", yard(), state, due...)
				faulty(t, "two", yard(), state, k)
			}
		}
	}
}

// The Ids are in no order, and none is its pod's place.
func TestTheFirstOneIsTheFirstOfTheList(t *testing.T) { // P7.1
	state := pods(slices.Repeat([]loadAndNode{{5, 1}}, 4)...)
	for i, id := range []int{9, api.MaxId, 4, -7} {
		state.Pods[i].Id = id
	}
	clashes(t, "Ids in no order", yard(), state, api.MaxId, 9, 9, 9)
	faulty(t, "Ids in no order", yard(), state, 1)
	state.Pods[0].Node = 3
	clashes(t, "Ids in no order", yard(), state, 0, 4, api.MaxId, api.MaxId)
	faulty(t, "Ids in no order", yard(), state, 2)
	slices.Reverse(state.Pods)
	clashes(t, "turned", yard(), state, 4, -7, -7, 0)
	faulty(t, "turned", yard(), state, 1)
}

// Asked is the first pod of an Id, and each one beside it is another one.
func TestPodsOfOneId(t *testing.T) { // P7.1, P1
	ids := func(state api.State, ids ...int) api.State {
		for i, id := range ids {
			state.Pods[i].Id = id
		}
		return state
	}
	one, three, nowhere := loadAndNode{5, 1}, loadAndNode{5, 3}, loadAndNode{5, 0}
	for _, c := range []struct {
		name  string
		state api.State
		due   int // of Clash of 20
		place int // -1: none
	}{
		{"two together", ids(pods(one, one), 20, 20), 20, 1},
		{"two not together", ids(pods(one, three), 20, 20), 0, -1},
		{"another one with the second of them", ids(pods(one, three, three), 20, 20, 21), 0, 2},
		{"another one with the first of them", ids(pods(one, three, one), 20, 20, 21), 21, 2},
		{"another one with the first of them, ahead", ids(pods(one, one, three), 21, 20, 20), 21, 1},
		{"the first one nowhere", ids(pods(nowhere, one, one), 20, 20, 21), 0, 2},
		{"the second one nowhere", ids(pods(one, nowhere, one), 20, 20, 21), 21, 2},
		{"the second of them is the first other one", ids(pods(one, one, one), 20, 20, 21), 20, 1},
		{"the second of them is behind another one", ids(pods(one, one, one), 20, 21, 20), 21, 1},
		{"another one and the second of them", ids(pods(three, one, one), 20, 21, 20), 0, 2},
		{"others of one Id", ids(pods(three, three, three), 21, 21, 20), 21, 1},
	} {
		if id := Clash(yard(), c.state, 20); id != c.due {
			t.Errorf("%s: Clash: %d, want %d", c.name, id, c.due)
		}
		if c.place >= 0 {
			faulty(t, c.name, yard(), c.state, c.place)
		} else if err := Check(yard(), c.state); err != nil {
			t.Errorf("%s: Check: %v", c.name, err)
		}
	}
}

// Whether a load has Apart is told by the first one of its Id (layer 3's
// Load).
func TestLoadsOfOneId(t *testing.T) { // P7.1, P1
	state := pods(loadAndNode{5, 1}, loadAndNode{5, 1})
	has, hasNot := api.Load{Id: 5, Apart: true}, api.Load{Id: 5}
	clashes(t, "the first one has it", api.Snapshot{Loads: []api.Load{has, hasNot}}, state, 12, 11)
	faulty(t, "the first one has it", api.Snapshot{Loads: []api.Load{has, hasNot}}, state, 1)
	none(t, "the second one has it", api.Snapshot{Loads: []api.Load{hasNot, has}}, state)
}

// A load is one whatever its number is, and a node that may not be is one too:
// the chapter's words ask for no more than that it isn't 0.
func TestNumbersThatMayNotBe(t *testing.T) { // P7.1, P1
	for _, load := range []int{0, -1, math.MinInt, math.MaxInt, api.MaxId + 1} {
		s := api.Snapshot{Loads: []api.Load{{Id: 5}, {Id: load, Apart: true, Skew: -1, Min: 3, Max: -3}}}
		for _, node := range []int{-1, 2, math.MinInt, math.MaxInt, api.MaxId + 1} {
			state := pods(loadAndNode{load, node}, loadAndNode{load, 1}, loadAndNode{load, node})
			clashes(t, "numbers that may not be", s, state, 13, 0, 11)
			faulty(t, "numbers that may not be", s, state, 2)
		}
		none(t, "nowhere", s, pods(loadAndNode{load, 0}, loadAndNode{load, 0}))
	}
	zero := pods(loadAndNode{5, 1}, loadAndNode{5, 1})
	zero.Pods[0].Id = 0
	clashes(t, "a pod of Id 0", yard(), zero, 12, 0)
	faulty(t, "a pod of Id 0", yard(), zero, 1)
}

// Zones, room, priorities and budgets are nothing to it.
func TestWhatIsNothingToIt(t *testing.T) { // P7.1
	s, state := yard(), pods(loadAndNode{5, 1}, loadAndNode{5, 3}, loadAndNode{5, 1})
	s.Nodes, s.Pods = nil, nil
	state.Preempts, state.Shifts = -1, math.MaxInt
	for i := range state.Pods {
		state.Pods[i].Prio, state.Pods[i].Req = -i, api.Vec{1<<64 - 1, uint64(i)}
	}
	clashes(t, "two", s, state, 13, 0, 11)
	faulty(t, "two", s, state, 2)
	state.Pods[2].Node = 4
	none(t, "one at each", s, state)
}

func TestWhatIsHandedInStays(t *testing.T) { // R2, R4
	together := state.First(yard())
	together.Pods[5].Node = 3
	for _, given := range []api.State{state.First(yard()), together, {}} {
		s, state := yard(), given
		state.Pods = slices.Clone(given.Pods)
		for pod := range 20 {
			if first, second := Clash(s, state, pod), Clash(s, state, pod); first != second {
				t.Errorf("%v, and then %v", first, second)
			}
		}
		first, second := Check(s, state), Check(s, state)
		if !reflect.DeepEqual(s, yard()) || !reflect.DeepEqual(state, given) {
			t.Errorf("of %v came %v, %v", given, s, state)
		}
		if !reflect.DeepEqual(first, second) {
			t.Errorf("%v, and then %v", first, second)
		}
	}
}

// What is told is new memory: a Spot that is changed changes no other one.
func TestEachSpotIsNew(t *testing.T) { // R2
	state := pods(loadAndNode{5, 1}, loadAndNode{5, 1})
	var spot *api.Spot
	if err := Check(yard(), state); !errors.As(err, &spot) {
		t.Fatal(err)
	}
	spot.At, spot.Err = 77, api.ErrGoal
	faulty(t, "once more", yard(), state, 1)
}

// What lies behind a list's end, within its memory, is neither looked at nor
// changed.
func TestWhatLiesBehindAList(t *testing.T) { // P7.1, R2
	state := pods(loadAndNode{5, 1}, loadAndNode{8, 1}, loadAndNode{5, 1})
	state.Pods = state.Pods[:2]
	none(t, "a pod behind", yard(), state)
	if id := Clash(yard(), state, 13); id != 0 {
		t.Errorf("Clash of the pod behind: %d", id)
	}
	if p := state.Pods[:3][2]; p != (api.Pod{Id: 13, Load: 5, Node: 1}) {
		t.Errorf("the pod behind became %v", p)
	}
	s := yard()
	s.Loads = s.Loads[:2]
	none(t, "a load behind", s, pods(loadAndNode{8, 1}, loadAndNode{8, 1}))
}
