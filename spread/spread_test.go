package spread

import (
	"errors"
	"math"
	"reflect"
	"slices"
	"testing"

	"dunnage/api"
	"dunnage/cluster"
	"dunnage/state"
)

// yard is a snapshot that may be, of zones 1, 2 and 5: zone 2 has two nodes.
// Load 6 has Skew 0; load 7 isn't there. Its first state has no fault.
func yard() api.Snapshot {
	return api.Snapshot{
		Nodes: []api.Node{{Id: 1, Zone: 2}, {Id: 3, Zone: 5}, {Id: 4, Zone: 2}, {Id: 9, Zone: 1}},
		Loads: []api.Load{{Id: 5, Skew: 1, Max: 9}, {Id: 6, Max: 9}, {Id: 8, Skew: 2, Max: 9}},
		Pods: []api.Pod{
			{Id: 11, Load: 5, Node: 1},
			{Id: 12, Load: 5, Node: 9},
			{Id: 13, Load: 6, Node: 1},
			{Id: 14, Load: 6, Node: 1},
			{Id: 15, Load: 6, Node: 4},
			{Id: 16, Load: 5},
			{Id: 17, Load: 8, Node: 3},
			{Id: 18, Load: 8, Node: 3},
			{Id: 19, Load: 6},
		},
	}
}

// loadAndNode is what matters of a pod.
type loadAndNode struct{ load, node int }

// pods are some of Ids 11, 12 and so on.
func pods(each ...loadAndNode) api.State {
	var t api.State
	for i, e := range each {
		t.Pods = append(t.Pods, api.Pod{Id: 11 + i, Load: e.load, Node: e.node})
	}
	return t
}

// some are so many alike.
func some(many, load, node int) []loadAndNode {
	return slices.Repeat([]loadAndNode{{load, node}}, many)
}

// nodes are some of Ids 1, 2 and so on, in these zones.
func nodes(zones ...int) []api.Node {
	var l []api.Node
	for i, zone := range zones {
		l = append(l, api.Node{Id: i + 1, Zone: zone})
	}
	return l
}

// counted holds the Count of a load in a zone against the one that is due.
func counted(t *testing.T, name string, s api.Snapshot, state api.State, load, zone, due int) {
	t.Helper()
	for range 2 {
		if count := Count(s, state, load, zone); count != due {
			t.Errorf("%s: Count of load %d, zone %d: %d, want %d", name, load, zone, count, due)
		}
	}
}

// skewed holds the Skew of a load against the one that is due.
func skewed(t *testing.T, name string, s api.Snapshot, state api.State, load, due int) {
	t.Helper()
	for range 2 {
		if skew := Skew(s, state, load); skew != due {
			t.Errorf("%s: Skew of load %d: %d, want %d", name, load, skew, due)
		}
	}
}

// fine holds that Check tells nothing.
func fine(t *testing.T, name string, s api.Snapshot, state api.State) {
	t.Helper()
	for range 2 {
		if err := Check(s, state); err != nil {
			t.Errorf("%s: Check: %v", name, err)
		}
	}
}

// faulty holds what Check tells against a Spot.
func faulty(t *testing.T, name string, s api.Snapshot, state api.State, place int) {
	t.Helper()
	for range 2 {
		err := Check(s, state)
		if !reflect.DeepEqual(err, error(&api.Spot{At: place, Err: api.ErrSpread})) {
			t.Errorf("%s: Check: %v (%T), want %v at %d", name, err, err, api.ErrSpread, place)
		}
		if !errors.Is(err, api.ErrSpread) {
			t.Errorf("%s: %v isn't %v", name, err, api.ErrSpread)
		}
	}
}

func TestTheSample(t *testing.T) { // P8.1
	s := yard()
	if err := cluster.Check(s); err != nil {
		t.Error(err)
	}
	first := state.First(s)
	fine(t, "the sample", s, first)
	for load, due := range map[int][3]int{5: {1, 1, 0}, 6: {0, 3, 0}, 7: {}, 8: {0, 0, 2}} {
		for i, zone := range []int{1, 2, 5} {
			counted(t, "the sample", s, first, load, zone, due[i])
		}
		skewed(t, "the sample", s, first, load, slices.Max(due[:]))
	}
}

func TestCount(t *testing.T) { // P8.1
	for _, c := range []struct {
		name string
		each []loadAndNode
		due  [3]int // of load 5, in zones 1, 2, 5
	}{
		{"no pods", nil, [3]int{}},
		{"one, in a zone of one node", some(1, 5, 9), [3]int{1, 0, 0}},
		{"one, in a zone of two nodes, at the first", some(1, 5, 1), [3]int{0, 1, 0}},
		{"one, in a zone of two nodes, at the second", some(1, 5, 4), [3]int{0, 1, 0}},
		{"several, in a zone of one node", some(3, 5, 3), [3]int{0, 0, 3}},
		{"several, at one of two nodes", some(2, 5, 4), [3]int{0, 2, 0}},
		{"one at each of two nodes", []loadAndNode{{5, 1}, {5, 4}}, [3]int{0, 2, 0}},
		{"several at each of two nodes", slices.Concat(some(2, 5, 4), some(3, 5, 1)), [3]int{0, 5, 0}},
		{"one at each node", []loadAndNode{{5, 1}, {5, 3}, {5, 4}, {5, 9}}, [3]int{1, 2, 1}},
		{"of other loads", []loadAndNode{{6, 1}, {8, 3}, {7, 4}, {0, 9}, {-5, 9}}, [3]int{}},
		{"beside those of other loads", []loadAndNode{{6, 1}, {5, 1}, {8, 1}, {5, 3}, {7, 3}}, [3]int{0, 1, 1}},
		{"nowhere", some(4, 5, 0), [3]int{}},
		{"one nowhere, one somewhere", []loadAndNode{{5, 0}, {5, 9}}, [3]int{1, 0, 0}},
		{"at nodes that aren't there", []loadAndNode{{5, 2}, {5, 5}, {5, -1}, {5, 10}, {5, math.MaxInt}, {5, math.MinInt}}, [3]int{}},
		{"beside those at a node that isn't there", []loadAndNode{{5, 2}, {5, 4}, {5, 2}}, [3]int{0, 1, 0}},
	} {
		for i, zone := range []int{1, 2, 5} {
			counted(t, c.name, yard(), pods(c.each...), 5, zone, c.due[i])
		}
		for _, zone := range []int{0, 3, 4, 6, 9, -1, -2, api.MaxZone, api.MaxZone + 1, math.MaxInt, math.MinInt} {
			counted(t, c.name+", a zone that isn't there", yard(), pods(c.each...), 5, zone, 0)
		}
		for _, load := range []int{1, -1, 9, 50, api.MaxId, math.MaxInt, math.MinInt} {
			counted(t, c.name+", a load that isn't there", yard(), pods(c.each...), load, 2, 0)
		}
		counted(t, c.name+", no nodes", api.Snapshot{}, pods(c.each...), 5, 2, 0)
	}
}

// A load's number, a zone's and a node's are told from each other.
func TestNumbersThatAreAlike(t *testing.T) { // P8.1
	s := api.Snapshot{
		Nodes: []api.Node{{Id: 1, Zone: 2}, {Id: 2, Zone: 3}, {Id: 3, Zone: 1}},
		Loads: []api.Load{{Id: 1}, {Id: 2, Skew: 1}, {Id: 3, Skew: 1}},
	}
	state := pods(slices.Concat(some(4, 1, 2), some(2, 2, 3), some(1, 3, 1))...)
	for load, due := range map[int][3]int{1: {0, 0, 4}, 2: {2, 0, 0}, 3: {0, 1, 0}} {
		for i, count := range due {
			counted(t, "alike", s, state, load, i+1, count)
		}
	}
	faulty(t, "alike", s, state, 1)
}

func TestSkew(t *testing.T) { // P8.1
	for _, c := range []struct {
		name  string
		zones []int
		many  []int // of load 5 at each of the nodes
		due   int
	}{
		{"one zone, no pod", []int{3}, []int{0}, 0},
		{"one zone, several pods", []int{3}, []int{7}, 0},
		{"one zone of several nodes that are unlike", []int{3, 3, 3}, []int{7, 0, 2}, 0},
		{"two zones that are alike", []int{3, 1}, []int{2, 2}, 0},
		{"two zones, the first one with more", []int{3, 1}, []int{5, 2}, 3},
		{"two zones, the second one with more", []int{3, 1}, []int{2, 5}, 3},
		{"two zones, one without a pod", []int{3, 1}, []int{0, 4}, 4},
		{"two zones without a pod", []int{3, 1}, []int{0, 0}, 0},
		{"three zones that are alike", []int{1, 2, 8}, []int{3, 3, 3}, 0},
		{"three zones, the least one first", []int{1, 2, 8}, []int{1, 4, 2}, 3},
		{"three zones, the least one last", []int{1, 2, 8}, []int{4, 3, 2}, 2},
		{"three zones, the least one between", []int{1, 2, 8}, []int{3, 0, 5}, 5},
		{"three zones, two alike", []int{8, 2, 1}, []int{2, 2, 3}, 1},
		{"the last zone without a pod", []int{1, 2, 8}, []int{2, 2, 0}, 2},
		{"several nodes of one zone, that make it alike", []int{1, 2, 1}, []int{1, 3, 2}, 0},
		{"several nodes of one zone, that make it unlike", []int{1, 2, 1}, []int{2, 2, 2}, 2},
		{"several nodes of each zone", []int{4, 7, 7, 4, 4}, []int{1, 0, 2, 0, 4}, 3},
		{"all zones", []int{8, 7, 6, 5, 4, 3, 2, 1}, []int{1, 1, 1, 1, 1, 3, 1, 1}, 2},
	} {
		s := api.Snapshot{Nodes: nodes(c.zones...), Loads: []api.Load{{Id: 5}}}
		each := slices.Concat(some(2, 5, 0), some(1, 5, 90), some(3, 6, 1)) // beside these
		for i, many := range c.many {
			each = append(each, some(many, 5, i+1)...)
		}
		skewed(t, c.name, s, pods(each...), 5, c.due)
		slices.Reverse(s.Nodes)
		slices.Reverse(each)
		skewed(t, c.name+", turned", s, pods(each...), 5, c.due)
		for _, load := range []int{0, 1, 7, -5, math.MaxInt, math.MinInt} {
			skewed(t, c.name+", a load that isn't there", s, pods(each...), load, 0)
		}
		s.Nodes = nil
		skewed(t, c.name+", no zones", s, pods(each...), 5, 0)
	}
}

func TestNoPods(t *testing.T) { // P8.1: the document's example
	for _, empty := range []api.State{{}, {Pods: []api.Pod{}}, {Preempts: 3, Shifts: 3}} {
		for _, s := range []api.Snapshot{yard(), {}, {Nodes: nodes(1, 2, 3)}, {Loads: yard().Loads}} {
			for load := -1; load < 20; load++ {
				skewed(t, "no pods", s, empty, load, 0)
			}
			fine(t, "no pods", s, empty)
		}
	}
}

func TestCheckOfNoLoads(t *testing.T) { // P8.1
	for _, loads := range [][]api.Load{nil, {}} {
		s := yard()
		s.Loads = loads
		fine(t, "no loads", s, state.First(s))
		fine(t, "no loads", s, pods(some(api.MaxPods, 5, 1)...))
	}
}

func TestCheckOfNoNodes(t *testing.T) { // P8.1
	s := yard()
	s.Nodes = nil
	fine(t, "no nodes", s, pods(some(api.MaxPods, 5, 1)...))
}

func TestLoadsWithSkew0(t *testing.T) { // P8.1
	s := yard()
	for many := range 200 {
		state := pods(some(many, 6, 1)...)
		skewed(t, "Skew 0", s, state, 6, many)
		fine(t, "Skew 0", s, state)
	}
}

// A Skew below 0 is not above 0, so it is one that nothing is above.
func TestLoadsWithASkewBelow0(t *testing.T) { // P8.1, P1
	for _, skew := range []int{-1, -100, math.MinInt} {
		s := api.Snapshot{Nodes: nodes(1, 2), Loads: []api.Load{{Id: 5, Skew: skew}}}
		fine(t, "Skew below 0", s, pods(some(3, 5, 1)...))
		fine(t, "Skew below 0", s, api.State{})
	}
}

func TestJustItsSkewAndOneAbove(t *testing.T) { // P8.1
	for skew := 1; skew <= api.MaxCount+1; skew++ {
		s := api.Snapshot{Nodes: nodes(4, 2, 4), Loads: []api.Load{{Id: 5, Skew: skew, Max: 100}}}
		for _, least := range []int{0, 1, 3} {
			each := slices.Concat(some(least, 5, 2), some(least, 5, 1), some(skew-1, 5, 3))
			fine(t, "one below", s, pods(each...))
			fine(t, "just its Skew", s, pods(append(each, loadAndNode{5, 1})...))
			faulty(t, "one above", s, pods(append(each, loadAndNode{5, 1}, loadAndNode{5, 3})...), 0)
			fine(t, "one above, but one more elsewhere", s, pods(append(each, loadAndNode{5, 1}, loadAndNode{5, 3}, loadAndNode{5, 2})...))
		}
	}
	s := api.Snapshot{Nodes: nodes(1, 2), Loads: []api.Load{{Id: 5, Skew: math.MaxInt}}}
	fine(t, "the greatest number", s, pods(some(300, 5, 1)...))
}

// Each of the loads is at fault, or isn't; the first one that is is told, at
// its place in the list, which is neither its Id nor its place among those with
// a Skew.
func TestTheFirstLoadAtFault(t *testing.T) { // P8.1, R1
	skews := []int{2, 0, 1, 2, 0, 3, 1, 1}
	s := api.Snapshot{Nodes: nodes(1, 2, 3)}
	for i, skew := range skews {
		s.Loads = append(s.Loads, api.Load{Id: 10 * (i + 1), Skew: skew, Max: 100})
	}
	for atFault := range 1 << len(skews) {
		var each []loadAndNode
		first := -1
		for i, skew := range skews {
			each = append(each, some(skew, s.Loads[i].Id, 1+i%3)...)
			if atFault>>i&1 == 0 {
				continue
			}
			each = append(each, loadAndNode{s.Loads[i].Id, 1 + i%3})
			if first < 0 && skew > 0 {
				first = i
			}
		}
		if slices.Reverse(each); first < 0 {
			fine(t, "none at fault", s, pods(each...))
		} else {
			faulty(t, "some at fault", s, pods(each...), first)
		}
	}
}

// The least one of a list's loads at fault is not the first one, nor is the
// one that is most at fault.
func TestLoadsInNoOrder(t *testing.T) { // P8.1, P1
	s := api.Snapshot{Nodes: nodes(1, 2), Loads: []api.Load{{Id: 9, Skew: 1}, {Id: 7, Skew: 1}, {Id: 2, Skew: 1}}}
	faulty(t, "no order", s, pods(slices.Concat(some(5, 2, 1), some(2, 7, 1))...), 1)
	faulty(t, "no order", s, pods(slices.Concat(some(5, 2, 1), some(1, 7, 1))...), 2)
	faulty(t, "no order", s, pods(slices.Concat(some(5, 2, 1), some(2, 9, 2))...), 0)
}

// A pod of the snapshot alone is none of the state, and the pods' loads and
// nodes are those of the state.
func TestTheStatesPodsCount(t *testing.T) { // P8.1
	s := yard()
	for i := range s.Pods {
		s.Pods[i].Load, s.Pods[i].Node = 5, 1
	}
	fine(t, "no pods", s, api.State{})
	fine(t, "pods elsewhere", s, state.First(yard()))
	counted(t, "pods elsewhere", s, state.First(yard()), 5, 2, 1)
	s.Pods = nil
	both := pods(loadAndNode{5, 1}, loadAndNode{5, 1})
	counted(t, "no pods in the snapshot", s, both, 5, 2, 2)
	skewed(t, "no pods in the snapshot", s, both, 5, 2)
	faulty(t, "no pods in the snapshot", s, both, 0)
}

// Room, Apart, Min, Max, priorities and budgets are nothing to it.
func TestWhatIsNothingToIt(t *testing.T) { // P8.1
	s, state := yard(), pods(loadAndNode{5, 1}, loadAndNode{5, 4}, loadAndNode{8, 4})
	state.Preempts, state.Shifts = -1, math.MaxInt
	for i := range state.Pods {
		state.Pods[i].Prio, state.Pods[i].Req = -i, api.Vec{1<<64 - 1, uint64(i)}
	}
	for i := range s.Loads {
		s.Loads[i].Apart, s.Loads[i].Min, s.Loads[i].Max = true, 50, -50
	}
	counted(t, "two", s, state, 5, 2, 2)
	skewed(t, "two", s, state, 5, 2)
	faulty(t, "two", s, state, 0)
	state.Pods[1].Node = 3
	fine(t, "one in each", s, state)
}

// Node 0 is nowhere, though the snapshot has a node of that Id; its zone is a
// zone all the same, without a pod.
func TestANodeOfId0(t *testing.T) { // P8.1, P8.2, P1
	s := api.Snapshot{Nodes: []api.Node{{Id: 0, Zone: 3}, {Id: 1, Zone: 4}}, Loads: []api.Load{{Id: 5, Skew: 1}}}
	state := pods(loadAndNode{5, 0}, loadAndNode{5, 0}, loadAndNode{5, 0})
	counted(t, "nowhere", s, state, 5, 3, 0)
	skewed(t, "nowhere", s, state, 5, 0)
	fine(t, "nowhere", s, state)
	state = pods(loadAndNode{5, 0}, loadAndNode{5, 1}, loadAndNode{5, 1})
	counted(t, "somewhere", s, state, 5, 4, 2)
	skewed(t, "somewhere", s, state, 5, 2)
	faulty(t, "somewhere", s, state, 0)
}

// A pod is at one node: of several of one Id at the first one (layer 3's Node).
// So all counts together are still how many pods there are.
func TestNodesOfOneId(t *testing.T) { // P8.1, P8.2, P1
	s := api.Snapshot{Nodes: []api.Node{{Id: 1, Zone: 3}, {Id: 1, Zone: 4}}, Loads: []api.Load{{Id: 5, Skew: 1}}}
	state := pods(some(2, 5, 1)...)
	counted(t, "the first one's zone", s, state, 5, 3, 2)
	counted(t, "the second one's zone", s, state, 5, 4, 0)
	skewed(t, "two zones", s, state, 5, 2)
	faulty(t, "two zones", s, state, 0)
	s.Nodes[1].Zone = 3
	counted(t, "both in one", s, state, 5, 3, 2)
	skewed(t, "both in one", s, state, 5, 0)
	fine(t, "both in one", s, state)
}

// Each load of the list is looked at with its own Skew, and each pod counts,
// whatever Ids they have.
func TestLoadsAndPodsOfOneId(t *testing.T) { // P8.1, P1
	s := api.Snapshot{Nodes: nodes(1, 2), Loads: []api.Load{{Id: 5, Skew: 3}, {Id: 5}, {Id: 5, Skew: 2}, {Id: 5, Skew: 1}}}
	state := pods(some(3, 5, 1)...)
	for i := range state.Pods {
		state.Pods[i].Id = 11
	}
	counted(t, "one Id", s, state, 5, 1, 3)
	faulty(t, "one Id", s, state, 2)
	state.Pods[0].Node = 0
	faulty(t, "one nowhere", s, state, 3)
	state.Pods[1].Node = 2
	fine(t, "one in each", s, state)
}

// A load, a zone and a node are ones whatever their numbers are, but for Node
// 0.
func TestNumbersThatMayNotBe(t *testing.T) { // P8.1, P1
	for _, n := range []int{0, -1, math.MinInt, math.MaxInt, api.MaxId + 1} {
		for _, zone := range []int{0, -1, 9, math.MinInt, math.MaxInt} {
			s := api.Snapshot{
				Nodes: []api.Node{{Id: n, Zone: zone}, {Id: 2, Zone: 1}},
				Loads: []api.Load{{Id: 5}, {Id: n, Skew: 1}},
			}
			state := pods(loadAndNode{n, n}, loadAndNode{5, n}, loadAndNode{n, n})
			due := 2
			if n == 0 {
				due = 0
			}
			counted(t, "numbers that may not be", s, state, n, zone, due)
			skewed(t, "numbers that may not be", s, state, n, due)
			if due == 0 {
				fine(t, "numbers that may not be", s, state)
			} else {
				faulty(t, "numbers that may not be", s, state, 1)
			}
		}
	}
}

// Lists far longer than those that may be.
func TestLongLists(t *testing.T) { // P1
	var s api.Snapshot
	var state api.State
	for i := range 600 {
		s.Nodes = append(s.Nodes, api.Node{Id: i + 1, Zone: 600 - i})
		s.Loads = append(s.Loads, api.Load{Id: i + 1, Skew: 1})
		state.Pods = append(state.Pods, api.Pod{Id: i + 1, Load: 1 + i/2, Node: i + 1})
	}
	fine(t, "long lists", s, state)
	state.Pods[598].Node, state.Pods[599].Node = 7, 7
	faulty(t, "long lists", s, state, 299)
	counted(t, "long lists", s, state, 300, 594, 2)
	skewed(t, "long lists", s, state, 300, 2)
}

func TestWhatIsHandedInStays(t *testing.T) { // R2, R4
	unlike := state.First(yard())
	unlike.Pods[1].Node = 4
	for _, given := range []api.State{state.First(yard()), unlike, {}} {
		s, state := yard(), given
		state.Pods = slices.Clone(given.Pods)
		for load := range 10 {
			for zone := range 10 {
				if first, second := Count(s, state, load, zone), Count(s, state, load, zone); first != second {
					t.Errorf("%v, and then %v", first, second)
				}
			}
			if first, second := Skew(s, state, load), Skew(s, state, load); first != second {
				t.Errorf("%v, and then %v", first, second)
			}
		}
		first, second := Check(s, state), Check(s, state)
		if !reflect.DeepEqual(s, yard()) || !reflect.DeepEqual(state, given) {
			t.Errorf("of %v came %v, %v", given, s, state)
		}
		if !reflect.DeepEqual(first, second) {
			t.Errorf("%v, and then %v", first, second)
		}
	}
}

// What is told is new memory: a Spot that is changed changes no other one.
func TestEachSpotIsNew(t *testing.T) { // R2
	state := pods(some(2, 5, 1)...)
	var spot *api.Spot
	if err := Check(yard(), state); !errors.As(err, &spot) {
		t.Fatal(err)
	}
	spot.At, spot.Err = 77, api.ErrGoal
	faulty(t, "once more", yard(), state, 0)
}

// What lies behind a list's end, within its memory, is neither looked at nor
// changed.
func TestWhatLiesBehindAList(t *testing.T) { // P8.1, R2
	s, state := yard(), pods(loadAndNode{5, 1}, loadAndNode{8, 4}, loadAndNode{5, 1})
	state.Pods = state.Pods[:2]
	fine(t, "a pod behind", s, state)
	counted(t, "a pod behind", s, state, 5, 2, 1)
	if p := state.Pods[:3][2]; p != (api.Pod{Id: 13, Load: 5, Node: 1}) {
		t.Errorf("the pod behind became %v", p)
	}
	s.Loads = s.Loads[:2]
	fine(t, "a load behind", s, pods(some(9, 8, 1)...))
	s.Nodes = s.Nodes[:3]
	both := pods(loadAndNode{5, 1}, loadAndNode{5, 3}, loadAndNode{5, 4}, loadAndNode{5, 9})
	skewed(t, "a node behind", s, both, 5, 1)
	counted(t, "a node behind", s, both, 5, 1, 0)
	if !reflect.DeepEqual(s.Nodes[:4], yard().Nodes) || !reflect.DeepEqual(s.Loads[:3], yard().Loads) {
		t.Errorf("what lies behind became %v, %v", s.Nodes[:4], s.Loads[:3])
	}
}
