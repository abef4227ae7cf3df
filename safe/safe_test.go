package safe

import (
	"errors"
	"math"
	"math/bits"
	"reflect"
	"slices"
	"testing"

	"dunnage/apart"
	"dunnage/api"
	"dunnage/budget"
	"dunnage/cluster"
	"dunnage/room"
	"dunnage/spread"
	"dunnage/state"
)

// yard is a snapshot, and a spec, that may be; its first state is safe, and so
// made that each fault can be laid on it without another one.
func yard() (api.Snapshot, api.Spec, api.State) {
	s := api.Snapshot{
		Nodes: []api.Node{
			{Id: 1, Zone: 1, Cap: api.Vec{9, 9, 9, 9}, Held: api.Vec{1}},
			{Id: 3, Zone: 2, Cap: api.Vec{9, 9, 9, 9}},
			{Id: 4, Zone: 2, Cap: api.Vec{9, 9, 9, 9}},
		},
		Loads: []api.Load{
			{Id: 5, Max: 9},
			{Id: 6, Apart: true, Max: 9},
			{Id: 7, Skew: 1, Max: 9},
			{Id: 8, Min: 1, Max: 2},
		},
		Pods: []api.Pod{
			{Id: 11, Load: 5, Req: api.Vec{4, 1}, Node: 1},
			{Id: 12, Load: 5, Req: api.Vec{4}, Node: 1},
			{Id: 13, Load: 5, Req: api.Vec{2, 1}, Node: 3},
			{Id: 14, Load: 5, Req: api.Vec{2, 1}, Node: 4},
			{Id: 15, Load: 5, Req: api.Vec{1, 1}, Node: 4},
			{Id: 16, Load: 6, Req: api.Vec{0, 1}, Node: 1},
			{Id: 17, Load: 6, Req: api.Vec{0, 1}, Node: 3},
			{Id: 18, Load: 7, Req: api.Vec{0, 0, 2}, Node: 1},
			{Id: 19, Load: 7, Req: api.Vec{0, 0, 2}},
			{Id: 20, Load: 8, Node: 4},
			{Id: 21, Load: 8, Node: 4},
			{Id: 22, Load: 8},
		},
	}
	return s, api.Spec{Preempts: 2, Shifts: 3}, state.First(s)
}

// fault is one that is laid on the yard's first state; it touches no thing that
// another check looks at.
type fault struct {
	name string
	lay  func(t *api.State)
	due  error
}

func spot(at int, c api.Code) error { return &api.Spot{At: at, Err: c} }

// faultsOfEach are, of each of the five checks in their order, some ways to be
// at fault. Those of room are the Reqs of the first five pods, those of the
// three behind it the Nodes of the others, and those of the budgets what was
// used.
func faultsOfEach() [5][]fault {
	return [5][]fault{
		{
			{"no room at the first node", func(t *api.State) { t.Pods[0].Req[0] = 5 }, spot(0, api.ErrRoom)},
			{"no room at the second node", func(t *api.State) { t.Pods[2].Req[3] = 10 }, spot(1, api.ErrRoom)},
			{"no room at the last node", func(t *api.State) { t.Pods[4].Req[3] = math.MaxUint64 }, spot(2, api.ErrRoom)},
			{"no room at two nodes", func(t *api.State) { t.Pods[2].Req[1], t.Pods[3].Req[1] = 99, 99 }, spot(1, api.ErrRoom)},
			{"a sum that goes over at the first node", func(t *api.State) { t.Pods[1].Req[0] = math.MaxUint64 - 3 }, spot(0, api.ErrOver)},
			{"a sum that goes over at the last node", func(t *api.State) { t.Pods[3].Req[3], t.Pods[4].Req[3] = 1<<63, 1<<63 }, spot(2, api.ErrOver)},
		},
		{
			{"two at the first node", func(t *api.State) { t.Pods[6].Node = 1 }, spot(6, api.ErrApart)},
			{"two at the second node", func(t *api.State) { t.Pods[5].Node = 3 }, spot(6, api.ErrApart)},
			{"two at the last node", func(t *api.State) { t.Pods[5].Node, t.Pods[6].Node = 4, 4 }, spot(6, api.ErrApart)},
		},
		{
			{"two in a zone", func(t *api.State) { t.Pods[8].Node = 1 }, spot(2, api.ErrSpread)},
			{"two in another zone", func(t *api.State) { t.Pods[7].Node, t.Pods[8].Node = 3, 4 }, spot(2, api.ErrSpread)},
		},
		{
			{"too few", func(t *api.State) { t.Pods[9].Node, t.Pods[10].Node = 0, 0 }, spot(3, api.ErrFew)},
			{"too many", func(t *api.State) { t.Pods[11].Node = 1 }, spot(3, api.ErrMany)},
		},
		{
			{"Preempts used up", func(t *api.State) { t.Preempts = 3 }, api.ErrBudget},
			{"Shifts used up", func(t *api.State) { t.Shifts = 4 }, api.ErrBudget},
			{"both used up", func(t *api.State) { t.Preempts, t.Shifts = math.MaxInt, math.MaxInt }, api.ErrBudget},
		},
	}
}

// byTheLayers are what the five checks tell, each asked of its layer.
func byTheLayers(s api.Snapshot, x api.Spec, t api.State) [5]error {
	return [5]error{room.Check(s, t), apart.Check(s, t), spread.Check(s, t), budget.Check(s, t), budget.Used(x, t)}
}

// told holds all calls against the errors that are due, in their order: Why
// tells the first one, All the Codes of all, and Is whether there are none.
func told(t *testing.T, name string, s api.Snapshot, x api.Spec, state api.State, due ...error) {
	t.Helper()
	var why error
	var codes []api.Code
	for _, err := range due {
		if why == nil {
			why = err
		}
		var c api.Code
		errors.As(err, &c)
		codes = append(codes, c)
	}
	for range 2 {
		if err := Why(s, x, state); !reflect.DeepEqual(err, why) {
			t.Errorf("%s: Why: %v (%T), want %v (%T)", name, err, err, why, why)
		}
		if Is(s, x, state) != (len(due) == 0) {
			t.Errorf("%s: Is: %v, with %v due", name, len(due) != 0, due)
		}
		if all := All(s, x, state); !slices.Equal(all, codes) {
			t.Errorf("%s: All: %v, want %v", name, all, codes)
		}
	}
}

func TestTheSampleMayBe(t *testing.T) {
	s, x, _ := yard()
	if err := cluster.Fair(s, x); err != nil {
		t.Error(err)
	}
}

// The document's example: no pods, no loads.
func TestTheExample(t *testing.T) { // P11.1
	s, x, _ := yard()
	s.Loads, s.Pods = nil, nil
	told(t, "no pods, no loads", s, x, api.State{})
	told(t, "no pods, no loads, some used", s, x, api.State{Preempts: 2, Shifts: 3})
	told(t, "lists of none", api.Snapshot{Nodes: s.Nodes, Loads: []api.Load{}, Pods: []api.Pod{}}, x, api.State{Pods: []api.Pod{}})
	told(t, "no nodes either", api.Snapshot{}, api.Spec{}, api.State{})
}

func TestSafe(t *testing.T) { // P11.1
	for _, c := range []struct {
		name   string
		change func(s *api.Snapshot, x *api.Spec, t *api.State)
	}{
		{"the sample", func(*api.Snapshot, *api.Spec, *api.State) {}},
		{"no pods, and no load that needs one", func(s *api.Snapshot, _ *api.Spec, t *api.State) { s.Loads, t.Pods = s.Loads[:3], nil }},
		{"pods of no load that is there", func(s *api.Snapshot, _ *api.Spec, _ *api.State) { s.Loads = nil }},
		{"pods nowhere", func(s *api.Snapshot, _ *api.Spec, t *api.State) {
			s.Loads[3].Min = 0
			for i := range t.Pods {
				t.Pods[i].Node = 0
				t.Pods[i].Req = api.Vec{math.MaxUint64, math.MaxUint64}
			}
		}},
		{"a node just full", func(_ *api.Snapshot, _ *api.Spec, t *api.State) { t.Pods[0].Req = api.Vec{4, 8, 7, 9} }},
		{"one at each node of those that are apart", func(_ *api.Snapshot, _ *api.Spec, t *api.State) { t.Pods[6].Node = 4 }},
		{"a skew just as great as may be", func(_ *api.Snapshot, _ *api.Spec, t *api.State) { t.Pods[7].Node, t.Pods[8].Node = 0, 3 }},
		{"no skew", func(_ *api.Snapshot, _ *api.Spec, t *api.State) { t.Pods[8].Node = 4 }},
		{"just as few as may be", func(_ *api.Snapshot, _ *api.Spec, t *api.State) { t.Pods[9].Node = 0 }},
		{"budgets used just to the end", func(_ *api.Snapshot, _ *api.Spec, t *api.State) { t.Preempts, t.Shifts = 2, 3 }},
		{"budgets of 0, and nothing used", func(_ *api.Snapshot, x *api.Spec, _ *api.State) { x.Preempts, x.Shifts = 0, 0 }},
		{"wants that aren't met", func(_ *api.Snapshot, x *api.Spec, _ *api.State) {
			x.Wants = []api.Want{{Pod: 11}, {Pod: 14, Stay: true, Req: api.Vec{math.MaxUint64}}, {Pod: 22, Stay: true}, {Pod: 99, Stay: true}}
		}},
	} {
		t.Run(c.name, func(t *testing.T) {
			s, x, first := yard()
			c.change(&s, &x, &first)
			told(t, c.name, s, x, first)
		})
	}
}

// At fault in just one of the five ways: the error is the one that its layer
// tells, the same Spot or the same Code, and the other four tell none.
func TestOneFault(t *testing.T) { // P11.1
	for i, each := range faultsOfEach() {
		for _, f := range each {
			t.Run(f.name, func(t *testing.T) {
				s, x, first := yard()
				f.lay(&first)
				told(t, f.name, s, x, first, f.due)
				layers := byTheLayers(s, x, first)
				for k, err := range layers {
					if k != i && err != nil {
						t.Errorf("check %d tells %v, too", k, err)
					}
				}
				if why := Why(s, x, first); !reflect.DeepEqual(why, layers[i]) {
					t.Errorf("%v (%T), and the layer tells %v (%T)", why, why, layers[i], layers[i])
				}
			})
		}
	}
}

// An error that layer 9 tells as a Code is no Spot, and the others are no
// Codes.
func TestTheKindOfAnError(t *testing.T) { // P11.1
	for i, each := range faultsOfEach() {
		for _, f := range each {
			s, x, first := yard()
			f.lay(&first)
			why := Why(s, x, first)
			_, isSpot := why.(*api.Spot)
			_, isCode := why.(api.Code)
			if isSpot != (i < 4) || isCode != (i == 4) {
				t.Errorf("%s: %v is a %T", f.name, why, why)
			}
			for c := api.ErrArg; c <= api.ErrGoal; c++ {
				if errors.Is(why, c) != errors.Is(f.due, c) {
					t.Errorf("%s: whether %v is %v", f.name, why, c)
				}
			}
		}
	}
}

// laid is the yard with these faults, one of each check whose number isn't 0:
// the one of that number, from 1 on; and the errors that are due.
func laid(numbers [5]int) (api.State, []error) {
	_, _, t := yard()
	var due []error
	for i, each := range faultsOfEach() {
		if n := numbers[i]; n > 0 {
			each[n-1].lay(&t)
			due = append(due, each[n-1].due)
		}
	}
	return t, due
}

// Every choice of faults, of each check none or one: in two ways, in all five,
// and all between. The first one in the checks' order is told, whatever its
// place is.
func TestAllChoicesOfFaults(t *testing.T) { // P11.1, P11.2
	each := faultsOfEach()
	s, x, _ := yard()
	many := map[int]int{} // by which checks have a fault
	next := func(numbers *[5]int) bool {
		for i := range numbers {
			if numbers[i]++; numbers[i] <= len(each[i]) {
				return true
			}
			numbers[i] = 0
		}
		return false
	}
	for numbers, more := [5]int{}, true; more; more = next(&numbers) {
		at, due := laid(numbers)
		told(t, "some faults", s, x, at, due...)
		set := 0
		for i, n := range numbers {
			if n > 0 {
				set |= 1 << i
			}
		}
		many[set]++
	}
	for set := range 1 << 5 {
		if many[set] == 0 {
			t.Errorf("checks %05b never were at fault together (%d checks)", set, bits.OnesCount(uint(set)))
		}
	}
}

// Each two of the five, told one by one, by hand.
func TestEachTwo(t *testing.T) { // P11.1
	r, a, k, z, u := spot(0, api.ErrRoom), spot(6, api.ErrApart), spot(2, api.ErrSpread), spot(3, api.ErrFew), error(api.ErrBudget)
	for _, c := range []struct {
		name    string
		numbers [5]int
		why     error
		all     []api.Code
	}{
		{"room and apart", [5]int{1, 1, 0, 0, 0}, r, []api.Code{9, 10}},
		{"room and spread", [5]int{1, 0, 1, 0, 0}, r, []api.Code{9, 11}},
		{"room and size", [5]int{1, 0, 0, 1, 0}, r, []api.Code{9, 12}},
		{"room and budgets", [5]int{1, 0, 0, 0, 1}, r, []api.Code{9, 15}},
		{"apart and spread", [5]int{0, 1, 1, 0, 0}, a, []api.Code{10, 11}},
		{"apart and size", [5]int{0, 1, 0, 1, 0}, a, []api.Code{10, 12}},
		{"apart and budgets", [5]int{0, 1, 0, 0, 1}, a, []api.Code{10, 15}},
		{"spread and size", [5]int{0, 0, 1, 1, 0}, k, []api.Code{11, 12}},
		{"spread and budgets", [5]int{0, 0, 1, 0, 1}, k, []api.Code{11, 15}},
		{"size and budgets", [5]int{0, 0, 0, 1, 1}, z, []api.Code{12, 15}},
		{"all five", [5]int{1, 1, 1, 1, 1}, r, []api.Code{9, 10, 11, 12, 15}},
		{"all but room", [5]int{0, 1, 1, 1, 1}, a, []api.Code{10, 11, 12, 15}},
		{"all but room and apart", [5]int{0, 0, 1, 1, 1}, k, []api.Code{11, 12, 15}},
		{"the last one alone", [5]int{0, 0, 0, 0, 1}, u, []api.Code{15}},
		{"a sum that goes over, and too many", [5]int{5, 0, 0, 2, 0}, spot(0, api.ErrOver), []api.Code{8, 13}},
		{"all five, by other faults", [5]int{6, 3, 2, 2, 2}, spot(2, api.ErrOver), []api.Code{8, 10, 11, 13, 15}},
	} {
		t.Run(c.name, func(t *testing.T) {
			s, x, _ := yard()
			at, _ := laid(c.numbers)
			if err := Why(s, x, at); !reflect.DeepEqual(err, c.why) {
				t.Errorf("Why: %v, want %v", err, c.why)
			}
			if all := All(s, x, at); !slices.Equal(all, c.all) {
				t.Errorf("All: %v, want %v", all, c.all)
			}
			if Is(s, x, at) {
				t.Error("Is")
			}
		})
	}
}

// A check that finds several faults tells one, the first one of its own.
func TestOneCodeOfEachCheck(t *testing.T) { // P11.1, R1
	s := api.Snapshot{
		Nodes: []api.Node{{Id: 1, Zone: 1}, {Id: 2, Zone: 2}},
		Loads: []api.Load{{Id: 5, Apart: true, Skew: 1, Max: 1}, {Id: 6, Apart: true, Skew: 1, Min: 9, Max: 9}, {Id: 7, Min: 1, Max: 1}},
	}
	var at api.State
	for i := range 3 {
		at.Pods = append(at.Pods,
			api.Pod{Id: 10 + 2*i, Load: 6, Req: api.Vec{1}, Node: 1},
			api.Pod{Id: 11 + 2*i, Load: 5, Req: api.Vec{1}, Node: 2},
		)
	}
	at.Preempts, at.Shifts = 1, 1
	told(t, "several of each", s, api.Spec{}, at, spot(0, api.ErrRoom), spot(2, api.ErrApart), spot(0, api.ErrSpread), spot(0, api.ErrMany), api.ErrBudget)
	at.Pods[3].Req = api.Vec{math.MaxUint64}
	told(t, "several of each, room ahead of a sum", s, api.Spec{}, at, spot(0, api.ErrRoom), spot(2, api.ErrApart), spot(0, api.ErrSpread), spot(0, api.ErrMany), api.ErrBudget)
	slices.Reverse(s.Nodes)
	slices.Reverse(s.Loads)
	told(t, "several of each, turned", s, api.Spec{}, at, spot(0, api.ErrOver), spot(2, api.ErrApart), spot(1, api.ErrSpread), spot(0, api.ErrFew), api.ErrBudget)
}

// The nodes and the loads are the snapshot's, and the pods are the state's; the
// budgets are the spec's, and what was used of them is the state's.
func TestWhoseTheyAre(t *testing.T) { // P11.1
	for i, each := range faultsOfEach() {
		for _, f := range each {
			s, x, first := yard()
			bad := state.First(s)
			f.lay(&bad)
			s.Pods = bad.Pods
			told(t, f.name+", in the snapshot's pods", s, x, first)
			s.Pods = nil
			told(t, f.name+", and no pods in the snapshot", s, x, bad, f.due)
			if i < 4 {
				x.Preempts, x.Shifts = 99, 99
				told(t, f.name+", with wide budgets", s, x, bad, f.due)
				x.Preempts, x.Shifts = -1, 0
				told(t, f.name+", with no budgets", s, x, bad, f.due, api.ErrBudget)
			}
		}
	}
}

// Neither the Ids' order nor their being there once is asked for.
func TestThoseThatMayNotBe(t *testing.T) { // P11.1, P1
	told(t, "pods and no nodes", api.Snapshot{}, api.Spec{}, api.State{Pods: []api.Pod{{Id: 1, Load: 1, Req: api.Vec{9}, Node: 1}, {Id: 1, Load: 1, Node: 1}}})
	told(t, "a load that needs one, and no pods", api.Snapshot{Loads: []api.Load{{Min: math.MaxInt}}}, api.Spec{}, api.State{}, spot(0, api.ErrFew))
	told(t, "budgets below 0", api.Snapshot{}, api.Spec{Preempts: math.MinInt, Shifts: math.MinInt}, api.State{}, api.ErrBudget)
	told(t, "used below 0", api.Snapshot{}, api.Spec{}, api.State{Preempts: math.MinInt, Shifts: math.MinInt})
	told(t, "more held than there is", api.Snapshot{Nodes: []api.Node{{Id: 1}, {Id: 2, Held: api.Vec{0, 0, 0, 1}}}}, api.Spec{}, api.State{}, spot(1, api.ErrRoom))
	s, x, first := yard()
	slices.Reverse(s.Nodes)
	slices.Reverse(s.Loads)
	slices.Reverse(first.Pods)
	told(t, "turned", s, x, first)
	s.Loads = append(s.Loads, api.Load{Id: 5, Max: 1})
	told(t, "a second load of an Id", s, x, first, spot(4, api.ErrMany))
	first.Pods = append(first.Pods, api.Pod{Id: 16, Load: 6, Node: 1})
	told(t, "and a second pod of an Id", s, x, first, spot(12, api.ErrApart), spot(4, api.ErrMany))
}

// Lists far longer than those that may be.
func TestLongLists(t *testing.T) { // P1
	var s api.Snapshot
	var at api.State
	for i := range 300 {
		s.Nodes = append(s.Nodes, api.Node{Id: i + 1, Zone: i + 1, Cap: api.Vec{1}})
		s.Loads = append(s.Loads, api.Load{Id: i + 1, Apart: true, Skew: 1, Min: 1, Max: 1})
		at.Pods = append(at.Pods, api.Pod{Id: i + 1, Load: i + 1, Req: api.Vec{1}, Node: 300 - i})
	}
	told(t, "long", s, api.Spec{}, at)
	at.Pods = append(at.Pods, api.Pod{Id: 999, Load: 300, Node: 1})
	told(t, "long, and one more", s, api.Spec{}, at, spot(300, api.ErrApart), spot(299, api.ErrSpread), spot(299, api.ErrMany))
	at.Pods[0].Req[0]++
	told(t, "long, and some more", s, api.Spec{}, at, spot(299, api.ErrRoom), spot(300, api.ErrApart), spot(299, api.ErrSpread), spot(299, api.ErrMany))
}

// What is handed in stays as it is, and the same call is told the same.
func TestHandedInStays(t *testing.T) { // R2, R4
	for _, numbers := range [][5]int{{}, {1, 0, 0, 0, 0}, {5, 1, 1, 2, 1}, {0, 0, 0, 0, 3}, {0, 2, 0, 1, 0}} {
		s, x, _ := yard()
		x.Wants = []api.Want{{Pod: 11, Stay: true, Req: api.Vec{1}}, {Pod: 12}}
		at, due := laid(numbers)
		told(t, "as it is", s, x, at, due...)
		sDue, xDue, _ := yard()
		xDue.Wants = []api.Want{{Pod: 11, Stay: true, Req: api.Vec{1}}, {Pod: 12}}
		atDue, _ := laid(numbers)
		if !reflect.DeepEqual(s, sDue) || !reflect.DeepEqual(x, xDue) || !reflect.DeepEqual(at, atDue) {
			t.Errorf("they became %v, %v, %v", s, x, at)
		}
	}
}

// What is told is new memory: a list, or a Spot, that is changed changes no
// other one.
func TestWhatIsToldIsNew(t *testing.T) { // R2
	s, x, _ := yard()
	at, due := laid([5]int{2, 1, 1, 1, 1})
	one, two := All(s, x, at), All(s, x, at)
	for i := range one[:cap(one)] {
		one[:cap(one)][i] = 77
	}
	if !slices.Equal(two, []api.Code{9, 10, 11, 12, 15}) {
		t.Errorf("the other list became %v", two)
	}
	first, second := Why(s, x, at), Why(s, x, at)
	*first.(*api.Spot) = api.Spot{At: 77, Err: 77}
	if !reflect.DeepEqual(second, due[0]) {
		t.Errorf("the other Spot became %v", second)
	}
	told(t, "once more", s, x, at, due...)
}

// What lies behind a list's end, within its memory, is neither looked at nor
// changed.
func TestWhatLiesBehindAList(t *testing.T) { // P11.1, R2
	s, x, first := yard()
	s.Nodes = append(s.Nodes, api.Node{Id: 9, Held: api.Vec{1}})[:3]
	s.Loads = append(s.Loads, api.Load{Id: 9, Min: 1})[:4]
	behind := append(first.Pods, api.Pod{Id: 99, Load: 6, Req: api.Vec{99}, Node: 1}, api.Pod{Id: 98, Load: 8, Node: 1})
	first.Pods = behind[:12]
	kept := slices.Clone(behind)
	told(t, "faults behind", s, x, first)
	if !slices.Equal(behind, kept) || s.Nodes[:4][3].Id != 9 || s.Loads[:5][4].Id != 9 {
		t.Errorf("they became %v, %v, %v", s.Nodes[:4], s.Loads[:5], behind)
	}
}
