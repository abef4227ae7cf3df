package budget

import (
	"errors"
	"math"
	"reflect"
	"slices"
	"testing"

	"dunnage/api"
	"dunnage/cluster"
	"dunnage/state"
)

// yard is a snapshot that may be. Load 7 isn't there. Its first state has no
// fault.
func yard() api.Snapshot {
	return api.Snapshot{
		Nodes: []api.Node{{Id: 1, Zone: 2}, {Id: 3, Zone: 5}, {Id: 4, Zone: 2}},
		Loads: []api.Load{{Id: 5, Min: 1, Max: 3}, {Id: 6, Min: 2, Max: 2}, {Id: 8, Max: 1}, {Id: 9}},
		Pods: []api.Pod{
			{Id: 11, Load: 5, Node: 1},
			{Id: 12, Load: 5, Node: 3},
			{Id: 13, Load: 6, Node: 1},
			{Id: 14, Load: 5},
			{Id: 15, Load: 6, Node: 1},
			{Id: 16, Load: 8},
			{Id: 17, Load: 6},
			{Id: 18, Load: 9},
		},
	}
}

// loadAndNode is what matters of a pod.
type loadAndNode struct{ load, node int }

// pods are some of Ids 11, 12 and so on.
func pods(each ...loadAndNode) api.State {
	var t api.State
	for i, e := range each {
		t.Pods = append(t.Pods, api.Pod{Id: 11 + i, Load: e.load, Node: e.node})
	}
	return t
}

// some are so many alike.
func some(many, load, node int) []loadAndNode {
	return slices.Repeat([]loadAndNode{{load, node}}, many)
}

// one is a snapshot of one load, of Id 5.
func one(least, most int) api.Snapshot {
	return api.Snapshot{Loads: []api.Load{{Id: 5, Min: least, Max: most}}}
}

// sized holds the Size of a load against the one that is due.
func sized(t *testing.T, name string, state api.State, load, due int) {
	t.Helper()
	for range 2 {
		if size := Size(state, load); size != due {
			t.Errorf("%s: Size of load %d: %d, want %d", name, load, size, due)
		}
	}
}

// fine holds that Check tells nothing.
func fine(t *testing.T, name string, s api.Snapshot, state api.State) {
	t.Helper()
	for range 2 {
		if err := Check(s, state); err != nil {
			t.Errorf("%s: Check: %v", name, err)
		}
	}
}

// faulty holds what Check tells against a Spot.
func faulty(t *testing.T, name string, s api.Snapshot, state api.State, place int, due api.Code) {
	t.Helper()
	for range 2 {
		err := Check(s, state)
		if !reflect.DeepEqual(err, error(&api.Spot{At: place, Err: due})) {
			t.Errorf("%s: Check: %v (%T), want %v at %d", name, err, err, due, place)
		}
		if !errors.Is(err, due) {
			t.Errorf("%s: %v isn't %v", name, err, due)
		}
	}
}

func TestTheSample(t *testing.T) { // P9.1
	s := yard()
	if err := cluster.Check(s); err != nil {
		t.Error(err)
	}
	first := state.First(s)
	fine(t, "the sample", s, first)
	for load, due := range []int{5: 2, 6: 2, 8: 0, 9: 0, 19: 0} {
		sized(t, "the sample", first, load, due)
	}
}

func TestSize(t *testing.T) { // P9.1
	for _, c := range []struct {
		name string
		each []loadAndNode
		due  int // of load 5
	}{
		{"no pods", nil, 0},
		{"one", some(1, 5, 1), 1},
		{"two at one node", some(2, 5, 1), 2},
		{"several at several nodes", []loadAndNode{{5, 1}, {5, 3}, {5, 4}, {5, 3}, {5, 1}}, 5},
		{"as many as may be", some(api.MaxPods, 5, 4), api.MaxPods},
		{"one of another load", some(1, 6, 1), 0},
		{"some of other loads", []loadAndNode{{6, 5}, {8, 5}, {7, 5}, {0, 5}, {-5, 5}, {4, 5}}, 0},
		{"beside those of other loads", []loadAndNode{{6, 1}, {5, 1}, {8, 1}, {5, 3}, {7, 3}}, 2},
		{"one nowhere", some(1, 5, 0), 0},
		{"several nowhere", some(4, 5, 0), 0},
		{"the first one nowhere", []loadAndNode{{5, 0}, {5, 1}, {5, 3}}, 2},
		{"the last one nowhere", []loadAndNode{{5, 1}, {5, 3}, {5, 0}}, 2},
		{"one between nowhere", []loadAndNode{{5, 1}, {5, 0}, {5, 3}}, 2},
		{"others somewhere, its own ones nowhere", []loadAndNode{{6, 1}, {5, 0}, {8, 3}, {5, 0}}, 0},
		{"others nowhere, its own one somewhere", []loadAndNode{{6, 0}, {5, 3}, {8, 0}}, 1},
	} {
		state := pods(c.each...)
		sized(t, c.name, state, 5, c.due)
		for _, load := range []int{1, 2, 3, 9, 11, 12, 50, -1, api.MaxId, math.MaxInt, math.MinInt} {
			sized(t, c.name+", a load that isn't there", state, load, 0)
		}
		slices.Reverse(state.Pods)
		sized(t, c.name+", turned", state, 5, c.due)
		state.Preempts, state.Shifts = 3, 4
		sized(t, c.name+", with budgets used", state, 5, c.due)
	}
	sized(t, "an empty list", api.State{Pods: []api.Pod{}}, 5, 0)
}

// Somewhere is anywhere but Node 0, whether there is such a node or not: Size
// is told of no nodes.
func TestAnyNodeButZeroIsSomewhere(t *testing.T) { // P9.1, P1
	for _, node := range []int{1, 2, 9, api.MaxId, api.MaxId + 1, -1, math.MaxInt, math.MinInt} {
		state := pods(loadAndNode{5, node}, loadAndNode{5, 0}, loadAndNode{5, node})
		sized(t, "any node", state, 5, 2)
		fine(t, "any node", one(2, 2), state)
		faulty(t, "any node", one(3, 3), state, 0, api.ErrFew)
		faulty(t, "any node", one(1, 1), state, 0, api.ErrMany)
	}
}

// A load's number, a node's and a pod's are told from each other.
func TestNumbersThatAreAlike(t *testing.T) { // P9.1
	s := api.Snapshot{Loads: []api.Load{{Id: 1, Max: 4}, {Id: 2, Min: 2, Max: 2}, {Id: 3, Min: 2, Max: 3}}}
	state := pods(slices.Concat(some(4, 1, 2), some(2, 2, 3), some(1, 3, 1))...)
	for i := range state.Pods {
		state.Pods[i].Id, state.Pods[i].Prio = 1+i%3, 1+i%2
	}
	for load, due := range []int{0, 4, 2, 1, 0} {
		sized(t, "alike", state, load, due)
	}
	faulty(t, "alike", s, state, 2, api.ErrFew)
}

func TestTheExample(t *testing.T) { // P9.1: the document's example
	for _, empty := range []api.State{{}, {Pods: []api.Pod{}}, {Preempts: 3, Shifts: 3}} {
		faulty(t, "no pods", one(1, 1), empty, 0, api.ErrFew)
		faulty(t, "no pods", one(1, 100), empty, 0, api.ErrFew)
		faulty(t, "no pods", yard(), empty, 0, api.ErrFew)
		fine(t, "no pods", one(0, 0), empty)
		fine(t, "no pods", one(0, 1), empty)
	}
}

func TestCheckOfNoLoads(t *testing.T) { // P9.1
	for _, loads := range [][]api.Load{nil, {}} {
		s := yard()
		s.Loads = loads
		fine(t, "no loads", s, state.First(s))
		fine(t, "no loads", s, pods(some(api.MaxPods, 5, 1)...))
		fine(t, "no loads", s, api.State{})
	}
	fine(t, "nothing", api.Snapshot{}, api.State{})
}

func TestJustItsMinAndOneBelow(t *testing.T) { // P9.1
	for least := 1; least <= api.MaxCount+1; least++ {
		for _, most := range []int{least, least + 1, 2 * least, math.MaxInt} {
			s := one(least, most)
			faulty(t, "none", s, pods(slices.Concat(some(least, 5, 0), some(least, 6, 1))...), 0, api.ErrFew)
			faulty(t, "one below", s, pods(slices.Concat(some(least-1, 5, 3), some(2, 5, 0), some(2, 6, 1))...), 0, api.ErrFew)
			fine(t, "just its Min", s, pods(slices.Concat(some(2, 6, 1), some(2, 5, 0), some(least, 5, 3))...))
		}
		fine(t, "one above", one(least, least+1), pods(some(least+1, 5, 3)...))
	}
}

func TestJustItsMaxAndOneAbove(t *testing.T) { // P9.1
	for most := 0; most <= api.MaxCount+1; most++ {
		for _, least := range []int{0, most / 2, most} {
			s := one(least, most)
			fine(t, "just its Max", s, pods(slices.Concat(some(most, 5, 1), some(2, 5, 0), some(2, 6, 1))...))
			faulty(t, "one above", s, pods(slices.Concat(some(2, 6, 1), some(2, 5, 0), some(most+1, 5, 1))...), 0, api.ErrMany)
			faulty(t, "far above", s, pods(some(2*most+9, 5, 1)...), 0, api.ErrMany)
		}
		if most > 0 {
			fine(t, "one below", one(0, most), pods(some(most-1, 5, 1)...))
		}
	}
}

func TestMinAboveMax(t *testing.T) { // P9.1, R1
	for _, c := range []struct {
		least, most int
		due         []api.Code // of sizes 0, 1 and so on
	}{
		{2, 0, []api.Code{api.ErrFew, api.ErrFew, api.ErrMany, api.ErrMany}},
		{3, 1, []api.Code{api.ErrFew, api.ErrFew, api.ErrFew, api.ErrMany, api.ErrMany}},
		{1, 0, []api.Code{api.ErrFew, api.ErrMany}},
		{4, -1, []api.Code{api.ErrFew, api.ErrFew, api.ErrFew, api.ErrFew, api.ErrMany}},
		{math.MaxInt, math.MinInt, []api.Code{api.ErrFew, api.ErrFew, api.ErrFew, api.ErrFew}},
	} {
		for size, due := range c.due {
			faulty(t, "Min above Max", one(c.least, c.most), pods(some(size, 5, 1)...), 0, due)
		}
	}
}

// A bound below 0 is one that each size is above; the greatest number is one
// that none is above.
func TestBoundsThatMayNotBe(t *testing.T) { // P9.1, P1
	for size := range 4 {
		state := pods(some(size, 5, 1)...)
		for _, below := range []int{-1, -100, math.MinInt} {
			fine(t, "Min below 0", one(below, size), state)
			faulty(t, "Max below 0", one(below, below), state, 0, api.ErrMany)
		}
		fine(t, "the widest bounds", one(math.MinInt, math.MaxInt), state)
		faulty(t, "the greatest Min", one(math.MaxInt, math.MaxInt), state, 0, api.ErrFew)
	}
}

// Each of the loads has too few, enough or too many; the first one at fault is
// told, at its place in the list, which isn't its Id, with its own fault.
func TestTheFirstLoadAtFault(t *testing.T) { // P9.1, R1
	bounds := [][2]int{{1, 1}, {2, 4}, {1, 2}, {3, 3}, {1, 5}, {2, 2}}
	var s api.Snapshot
	for i, b := range bounds {
		s.Loads = append(s.Loads, api.Load{Id: 10 * (i + 1), Min: b[0], Max: b[1]})
	}
	for number := range 3 * 3 * 3 * 3 * 3 * 3 {
		var each []loadAndNode
		first, fault := -1, api.Code(0)
		for i, rest := 0, number; i < len(bounds); i, rest = i+1, rest/3 {
			size := []int{bounds[i][0], bounds[i][0] - 1, bounds[i][1] + 1}[rest%3]
			each = append(each, some(size, s.Loads[i].Id, 1+i%3)...)
			if first < 0 && rest%3 > 0 {
				first, fault = i, []api.Code{0, api.ErrFew, api.ErrMany}[rest%3]
			}
		}
		if slices.Reverse(each); first < 0 {
			fine(t, "none at fault", s, pods(each...))
		} else {
			faulty(t, "some at fault", s, pods(each...), first, fault)
		}
	}
}

// At a later place alone, each fault by itself, with nodes and pods in the
// snapshot that do not shift the place.
func TestLaterPlaces(t *testing.T) { // P9.1
	for place := range api.MaxLoads {
		s := yard()
		s.Loads = nil
		var each []loadAndNode
		for i := range api.MaxLoads {
			s.Loads = append(s.Loads, api.Load{Id: 5 + 3*i, Min: 1, Max: 2})
			if i != place {
				each = append(each, loadAndNode{5 + 3*i, 1}, loadAndNode{5 + 3*i, 4})
			}
		}
		faulty(t, "a later place", s, pods(each...), place, api.ErrFew)
		faulty(t, "a later place", s, pods(append(each, some(3, 5+3*place, 3)...)...), place, api.ErrMany)
		fine(t, "a later place", s, pods(append(each, some(2, 5+3*place, 3)...)...))
	}
}

// The least one of a list's loads at fault is not the first one, nor is the
// one that is most at fault, nor one with too few.
func TestLoadsInNoOrder(t *testing.T) { // P9.1, R1, P1
	s := api.Snapshot{Loads: []api.Load{{Id: 9, Max: 1}, {Id: 7, Max: 1}, {Id: 2, Min: 1, Max: 1}}}
	faulty(t, "no order", s, pods(slices.Concat(some(5, 2, 1), some(2, 7, 1))...), 1, api.ErrMany)
	faulty(t, "no order", s, pods(slices.Concat(some(5, 2, 1), some(1, 7, 1))...), 2, api.ErrMany)
	faulty(t, "no order", s, pods(some(1, 7, 1)...), 2, api.ErrFew)
	faulty(t, "no order", s, pods(slices.Concat(some(5, 7, 1), some(2, 9, 2))...), 0, api.ErrMany)
}

// Each load of the list is looked at with its own bounds, and each pod counts,
// whatever Ids they have.
func TestLoadsAndPodsOfOneId(t *testing.T) { // P9.1, P1
	s := api.Snapshot{Loads: []api.Load{{Id: 5, Max: 9}, {Id: 5, Min: 2, Max: 3}, {Id: 5, Max: 2}}}
	state := pods(some(4, 5, 1)...)
	for i := range state.Pods {
		state.Pods[i].Id = 11
	}
	sized(t, "one Id", state, 5, 4)
	faulty(t, "four", s, state, 1, api.ErrMany)
	state.Pods[0].Node = 0
	faulty(t, "three", s, state, 2, api.ErrMany)
	state.Pods[1].Node = 0
	fine(t, "two", s, state)
	state.Pods[2].Node = 0
	faulty(t, "one", s, state, 1, api.ErrFew)
}

// A load is one whatever its number is.
func TestLoadsThatMayNotBe(t *testing.T) { // P9.1, P1
	for _, load := range []int{0, -1, math.MinInt, math.MaxInt, api.MaxId + 1} {
		s := api.Snapshot{Loads: []api.Load{{Id: 5}, {Id: load, Min: 1, Max: 1}}}
		sized(t, "a load that may not be", pods(some(2, load, 1)...), load, 2)
		faulty(t, "a load that may not be", s, pods(some(2, load, 1)...), 1, api.ErrMany)
		fine(t, "a load that may not be", s, pods(loadAndNode{load, 1}, loadAndNode{load, 0}))
		faulty(t, "a load that may not be", s, pods(some(2, load, 0)...), 1, api.ErrFew)
	}
}

// A pod of the snapshot alone is none of the state, and the pods' loads and
// nodes are those of the state.
func TestTheStatesPodsCount(t *testing.T) { // P9.1
	s := yard()
	for i := range s.Pods {
		s.Pods[i].Load, s.Pods[i].Node = 5, 1
	}
	faulty(t, "no pods", s, api.State{}, 0, api.ErrFew)
	fine(t, "pods elsewhere", s, state.First(yard()))
	s.Pods = nil
	faulty(t, "no pods in the snapshot", s, pods(some(4, 5, 1)...), 0, api.ErrMany)
	faulty(t, "no pods in the snapshot", s, pods(some(3, 5, 1)...), 1, api.ErrFew)
}

// Room, Apart, Skew, priorities and what was used of budgets are nothing to
// Check.
func TestWhatIsNothingToIt(t *testing.T) { // P9.1
	s, state := yard(), state.First(yard())
	state.Preempts, state.Shifts = -1, math.MaxInt
	for i := range state.Pods {
		state.Pods[i].Prio, state.Pods[i].Req = -i, api.Vec{1<<64 - 1, uint64(i)}
	}
	for i := range s.Loads {
		s.Loads[i].Apart, s.Loads[i].Skew = true, 1
	}
	sized(t, "two", state, 6, 2)
	fine(t, "two", s, state)
	s.Nodes = nil
	fine(t, "no nodes", s, state)
	state.Pods[2].Node = 0
	faulty(t, "one less", s, state, 1, api.ErrFew)
}

// used holds what Used tells against what is due: nil, or the Code itself.
func used(t *testing.T, x api.Spec, state api.State, due error) {
	t.Helper()
	for range 2 {
		if err := Used(x, state); err != due {
			t.Errorf("%d, %d of budgets %d, %d: %v (%T), want %v", state.Preempts, state.Shifts, x.Preempts, x.Shifts, err, err, due)
		}
	}
}

func TestUsed(t *testing.T) { // P9.1
	for _, c := range []struct {
		name             string
		preempts, shifts int // of budgets 3 and 5
		due              error
	}{
		{"nothing used", 0, 0, nil},
		{"neither used up", 2, 4, nil},
		{"Preempts just to the end", 3, 0, nil},
		{"Preempts one above", 4, 0, api.ErrBudget},
		{"Preempts one above, below Shifts' end", 5, 5, api.ErrBudget},
		{"Preempts far above", 40, 0, api.ErrBudget},
		{"Shifts just to the end", 0, 5, nil},
		{"Shifts above Preempts' end", 0, 4, nil},
		{"Shifts one above", 0, 6, api.ErrBudget},
		{"Shifts far above", 0, 40, api.ErrBudget},
		{"both just to the end", 3, 5, nil},
		{"Preempts to the end, Shifts above", 3, 6, api.ErrBudget},
		{"Preempts above, Shifts to the end", 4, 5, api.ErrBudget},
		{"both one above", 4, 6, api.ErrBudget},
		{"both far above", 40, 40, api.ErrBudget},
		{"together as many as may be, but one above", 4, 4, api.ErrBudget},
		{"below 0", -1, -1, nil},
		{"one below 0, the other above", -1, 6, api.ErrBudget},
		{"the other below 0, the one above", 4, math.MinInt, api.ErrBudget},
		{"the least numbers", math.MinInt, math.MinInt, nil},
		{"the greatest numbers", math.MaxInt, math.MaxInt, api.ErrBudget},
	} {
		t.Run(c.name, func(t *testing.T) {
			x := api.Spec{Preempts: 3, Shifts: 5}
			state := api.State{Preempts: c.preempts, Shifts: c.shifts}
			used(t, x, state, c.due)
			x.Wants = []api.Want{{Pod: 11}, {Pod: 99, Stay: true}}
			state.Pods = pods(some(9, 5, 1)...).Pods // pods and wants are nothing to it
			used(t, x, state, c.due)
		})
	}
}

// Each budget by itself: of every number from one below 0 to the greatest that
// may be.
func TestEachBudget(t *testing.T) { // P9.1
	for budget := -1; budget <= api.MaxMoves; budget++ {
		for most := budget - 2; most <= budget+2; most++ {
			var due error
			if most > budget {
				due = api.ErrBudget
			}
			used(t, api.Spec{Preempts: budget, Shifts: 99}, api.State{Preempts: most}, due)
			used(t, api.Spec{Preempts: 99, Shifts: budget}, api.State{Shifts: most}, due)
			used(t, api.Spec{Preempts: budget, Shifts: budget}, api.State{Preempts: most, Shifts: most}, due)
		}
	}
	used(t, api.Spec{}, api.State{}, nil)
	used(t, api.Spec{Preempts: math.MinInt, Shifts: math.MinInt}, api.State{Preempts: math.MinInt, Shifts: math.MinInt}, nil)
	used(t, api.Spec{Preempts: math.MinInt}, api.State{Preempts: math.MaxInt}, api.ErrBudget)
	used(t, api.Spec{Shifts: math.MinInt}, api.State{Shifts: math.MaxInt}, api.ErrBudget)
	used(t, api.Spec{Preempts: math.MaxInt, Shifts: math.MaxInt}, api.State{Preempts: math.MaxInt, Shifts: math.MaxInt}, nil)
}

// Lists far longer than those that may be.
func TestLongLists(t *testing.T) { // P1
	var s api.Snapshot
	var state api.State
	for i := range 2_000 {
		s.Loads = append(s.Loads, api.Load{Id: i + 1, Min: 1, Max: 1})
		state.Pods = append(state.Pods, api.Pod{Id: i + 1, Load: 2_000 - i, Node: 1})
	}
	fine(t, "one of each", s, state)
	state.Pods[0].Node = 0
	faulty(t, "none of the last one", s, state, 1_999, api.ErrFew)
	state.Pods[0] = api.Pod{Load: 1_000, Node: 1}
	faulty(t, "two of one between", s, state, 999, api.ErrMany)
}

// What is handed in stays as it is, and the same call is told the same.
func TestHandedInStays(t *testing.T) { // R2, R4
	used := pods(loadAndNode{5, 1}, loadAndNode{6, 0}, loadAndNode{8, 3})
	used.Preempts, used.Shifts = 4, 7
	spec := api.Spec{Wants: []api.Want{{Pod: 11, Stay: true, Req: api.Vec{1}}, {Pod: 12}}, Preempts: 4, Shifts: 6}
	for _, given := range []api.State{state.First(yard()), used, {}} {
		s, x, state := yard(), spec, given
		x.Wants, state.Pods = slices.Clone(spec.Wants), slices.Clone(given.Pods)
		for load := range 10 {
			if first, second := Size(state, load), Size(state, load); first != second {
				t.Errorf("%v, and then %v", first, second)
			}
		}
		if first, second := Check(s, state), Check(s, state); !reflect.DeepEqual(first, second) {
			t.Errorf("%v, and then %v", first, second)
		}
		if first, second := Used(x, state), Used(x, state); first != second {
			t.Errorf("%v, and then %v", first, second)
		}
		if !reflect.DeepEqual(s, yard()) || !reflect.DeepEqual(state, given) || !reflect.DeepEqual(x, spec) {
			t.Errorf("of %v came %v, %v, %v", given, s, state, x)
		}
	}
}

// What is told is new memory: a Spot that is changed changes no other one.
func TestEachSpotIsNew(t *testing.T) { // R2
	var spot *api.Spot
	if err := Check(yard(), api.State{}); !errors.As(err, &spot) {
		t.Fatal(err)
	}
	spot.At, spot.Err = 77, api.ErrGoal
	faulty(t, "once more", yard(), api.State{}, 0, api.ErrFew)
}

// What lies behind a list's end, within its memory, is neither looked at nor
// changed.
func TestWhatLiesBehindAList(t *testing.T) { // P9.1, R2
	s, state := one(1, 1), pods(some(3, 5, 1)...)
	state.Pods = state.Pods[:1]
	sized(t, "pods behind", state, 5, 1)
	fine(t, "pods behind", s, state)
	state.Pods = state.Pods[:0]
	sized(t, "pods behind", state, 5, 0)
	faulty(t, "pods behind", s, state, 0, api.ErrFew)
	if !reflect.DeepEqual(state.Pods[:3], pods(some(3, 5, 1)...).Pods) {
		t.Errorf("the pods behind became %v", state.Pods[:3])
	}
	s.Loads = yard().Loads[:1]
	fine(t, "loads behind", s, pods(some(2, 5, 1)...))
	if !reflect.DeepEqual(s.Loads[:4], yard().Loads) {
		t.Errorf("the loads behind became %v", s.Loads[:4])
	}
}
