package fit

import (
	"math"
	"reflect"
	"slices"
	"testing"

	"dunnage/api"
	"dunnage/cluster"
	"dunnage/room"
	"dunnage/state"
)

const top = math.MaxUint64

// nodes are nodes 1, 2 and so on, empty, with these rests.
func nodes(rests ...api.Vec) api.Snapshot {
	var s api.Snapshot
	for i, r := range rests {
		s.Nodes = append(s.Nodes, api.Node{Id: 1 + i, Zone: 1, Cap: r})
	}
	return s
}

// pods are a state of these.
func pods(each ...api.Pod) api.State { return api.State{Pods: each} }

// yard is a snapshot that may be. The rests are 4 6 0 0 at node 2, 10 10 10 10
// at node 5, 7 1 0 3 at node 6, 0 0 0 0 at node 9.
func yard() api.Snapshot {
	return api.Snapshot{
		Nodes: []api.Node{
			{Id: 2, Zone: 1, Cap: api.Vec{9, 9, 2, 1}, Held: api.Vec{1, 1, 1, 0}},
			{Id: 5, Zone: 1, Cap: api.Vec{11, 12, 13, 14}, Held: api.Vec{1, 2, 3, 4}},
			{Id: 6, Zone: 2, Cap: api.Vec{8, 2, 0, 4}, Held: api.Vec{1, 0, 0, 0}},
			{Id: 9, Zone: 2, Cap: api.Vec{1, 1, 1, 1}},
		},
		Loads: []api.Load{{Id: 7, Max: 9}},
		Pods: []api.Pod{
			{Id: 11, Load: 7, Prio: 1, Req: api.Vec{3, 1, 1, 1}, Node: 2},
			{Id: 12, Load: 7, Prio: 2, Req: api.Vec{1, 1, 0, 0}, Node: 2},
			{Id: 13, Load: 7, Prio: 3, Req: api.Vec{0, 1, 0, 1}, Node: 6},
			{Id: 14, Load: 7, Prio: 4, Req: api.Vec{1, 1, 1, 1}, Node: 9},
			{Id: 15, Load: 7, Prio: 5, Req: api.Vec{4, 1, 0, 0}},
			{Id: 16, Load: 7, Prio: 5, Req: api.Vec{9, 0, 9, 0}},
			{Id: 17, Load: 7, Prio: 6, Req: api.Vec{0, 11, 0, 0}},
		},
	}
}

// tighter holds Tighter of two, both ways round, whatever the order of their
// numbers is; 0: they are alike.
func tighter(t *testing.T, a, b api.Vec, due int) {
	t.Helper()
	for _, x := range orders(a) {
		for _, y := range orders(b) {
			for range 2 {
				if Tighter(x, y) != (due < 0) || Tighter(y, x) != (due > 0) {
					t.Fatalf("%v is tighter than %v: %v, the other way round %v", x, y, Tighter(x, y), Tighter(y, x))
				}
			}
		}
	}
}

// orders are these four numbers in each order.
func orders(v api.Vec) []api.Vec {
	var l []api.Vec
	for a := range 4 {
		for b := range 4 {
			for c := range 4 {
				if a != b && b != c && c != a {
					l = append(l, api.Vec{v[a], v[b], v[c], v[6-a-b-c]})
				}
			}
		}
	}
	return l
}

// nodesFit holds Fits, First and Best against those that are due; no nodes may
// be told as nil or as an empty list.
func nodesFit(t *testing.T, name string, s api.Snapshot, p api.State, req api.Vec, best int, due ...int) {
	t.Helper()
	first := 0
	if len(due) > 0 {
		first = due[0]
	}
	for range 2 {
		if l := Fits(s, p, req); !slices.Equal(l, due) {
			t.Errorf("%s: Fits of %v: %v, want %v", name, req, l, due)
		}
		if id := First(s, p, req); id != first {
			t.Errorf("%s: First of %v: %d, want %d", name, req, id, first)
		}
		if id := Best(s, p, req); id != best {
			t.Errorf("%s: Best of %v: %d, want %d", name, req, id, best)
		}
	}
}

// ordered holds Order against those that are due.
func ordered(t *testing.T, name string, l []api.Pod, due ...api.Pod) {
	t.Helper()
	for range 2 {
		if got := Order(l); !slices.Equal(got, due) {
			t.Errorf("%s: Order of %v: %v, want %v", name, l, got, due)
		}
	}
}

// packed holds a Pack, the nodes of the state's pods one by one, and how many
// went; nothing else of the state changes.
func packed(t *testing.T, name string, s api.Snapshot, p api.State, l []api.Pod, best bool, went int, at ...int) {
	t.Helper()
	due := api.State{Preempts: p.Preempts, Shifts: p.Shifts}
	for i, q := range p.Pods {
		q.Node = at[i]
		due.Pods = append(due.Pods, q)
	}
	for range 2 {
		got, many := Pack(s, p, l, best)
		if !state.Same(got, due) || many != went {
			t.Errorf("%s, best %v: Pack of %v: %v, %d, want %v, %d", name, best, l, got, many, due, went)
		}
	}
}

func TestTheSampleIsAsTold(t *testing.T) {
	s := yard()
	if err := cluster.Check(s); err != nil {
		t.Fatal(err)
	}
	for id, due := range map[int]api.Vec{2: {4, 6, 0, 0}, 5: {10, 10, 10, 10}, 6: {7, 1, 0, 3}, 9: {}} {
		if rest, err := room.Rest(s, state.First(s), id); err != nil || rest != due {
			t.Errorf("the rest of node %d: %v, %v", id, rest, err)
		}
	}
}

// The document's example: of rests 5 and 3 a request of 2 goes to the first
// one, and to the second one.
func TestTheExample(t *testing.T) { // P14.1
	for i := range 4 {
		var five, three, two api.Vec
		five[i], three[i], two[i] = 5, 3, 2
		s := nodes(five, three)
		nodesFit(t, "the example", s, api.State{}, two, 2, 1, 2)
		p := pods(api.Pod{Id: 1, Req: two})
		packed(t, "the example", s, p, p.Pods, false, 1, 1)
		packed(t, "the example", s, p, p.Pods, true, 1, 2)
	}
}

func TestTighter(t *testing.T) { // P14.1
	for _, c := range []struct {
		a, b api.Vec
		due  int
	}{
		{api.Vec{}, api.Vec{}, 0},
		{api.Vec{1, 2, 3, 4}, api.Vec{1, 2, 3, 4}, 0},
		{api.Vec{5, 5, 5, 5}, api.Vec{5, 5, 5, 5}, 0},
		{api.Vec{7, 7, 1, 1}, api.Vec{7, 7, 1, 1}, 0},
		{api.Vec{}, api.Vec{1}, -1},
		{api.Vec{4, 0, 0, 0}, api.Vec{5, 0, 0, 0}, -1},
		{api.Vec{4, 4, 4, 4}, api.Vec{5, 0, 0, 0}, -1},
		{api.Vec{9, 4, 4, 4}, api.Vec{9, 5, 0, 0}, -1},
		{api.Vec{9, 8, 4, 4}, api.Vec{9, 8, 5, 0}, -1},
		{api.Vec{9, 8, 7, 4}, api.Vec{9, 8, 7, 5}, -1},
		{api.Vec{9, 9, 4, 4}, api.Vec{9, 9, 5, 0}, -1},
		{api.Vec{9, 9, 9, 0}, api.Vec{9, 9, 9, 1}, -1},
		{api.Vec{9, 9, 9, 9}, api.Vec{10, 0, 0, 0}, -1},
		{api.Vec{9, 1, 1, 1}, api.Vec{9, 9, 0, 0}, -1},
		{api.Vec{3, 3, 3, 0}, api.Vec{3, 3, 3, 3}, -1},
		{api.Vec{1, 1, 1, 2}, api.Vec{1, 1, 2, 2}, -1},
	} {
		tighter(t, c.a, c.b, c.due)
		tighter(t, c.b, c.a, -c.due)
	}
}

// Numbers as great as can be: neither their sum nor the difference of two is a
// number that a uint64, or an int, holds.
func TestTighterOfGreatNumbers(t *testing.T) { // P14.1, P1
	tighter(t, api.Vec{top, top, top, top}, api.Vec{top, top, top, top}, 0)
	rising := []uint64{0, 1, 2, math.MaxUint32, 1 << 32, math.MaxInt64 - 1, math.MaxInt64, 1 << 63, 1<<63 + 1, top - 1, top}
	for i, less := range rising {
		for _, more := range rising[i+1:] {
			tighter(t, api.Vec{less}, api.Vec{more}, -1)
			tighter(t, api.Vec{less, less, less, less}, api.Vec{more}, -1)
			tighter(t, api.Vec{top, less, less, less}, api.Vec{top, more, 0, 0}, -1)
			tighter(t, api.Vec{top, top, less, less}, api.Vec{top, top, more, 0}, -1)
			tighter(t, api.Vec{top, top, top, less}, api.Vec{top, top, top, more}, -1)
		}
	}
}

func TestFits(t *testing.T) { // P14.1
	for _, c := range []struct {
		name string
		req  api.Vec
		best int
		due  []int
	}{
		{"nothing: at all", api.Vec{}, 9, []int{2, 5, 6, 9}},
		{"at some", api.Vec{1, 1, 0, 0}, 2, []int{2, 5, 6}},
		{"at others", api.Vec{0, 0, 0, 1}, 6, []int{5, 6}},
		{"at the first one and another", api.Vec{0, 2, 0, 0}, 2, []int{2, 5}},
		{"at one", api.Vec{0, 0, 1, 0}, 5, []int{5}},
		{"just as great as a rest", api.Vec{4, 6, 0, 0}, 2, []int{2, 5}},
		{"one more than a rest", api.Vec{5, 6, 0, 0}, 5, []int{5}},
		{"one more than a rest, in another number", api.Vec{4, 6, 0, 1}, 5, []int{5}},
		{"just as great as another rest", api.Vec{7, 1, 0, 3}, 6, []int{5, 6}},
		{"just as great as the greatest rest", api.Vec{10, 10, 10, 10}, 5, []int{5}},
		{"one more than the greatest rest", api.Vec{10, 10, 10, 11}, 0, nil},
		{"one more than that, in the first number", api.Vec{11, 0, 0, 0}, 0, nil},
		{"what would fit, were nothing held", api.Vec{11, 12, 13, 14}, 0, nil},
		{"much", api.Vec{0, top, 0, 0}, 0, nil},
		{"all there is", api.Vec{top, top, top, top}, 0, nil},
	} {
		t.Run(c.name, func(t *testing.T) {
			s, p := yard(), state.First(yard())
			nodesFit(t, "as it is", s, p, c.req, c.best, c.due...)
			slices.Reverse(p.Pods)
			p.Preempts, p.Shifts = math.MinInt, math.MaxInt
			s.Loads, s.Pods = nil, nil
			nodesFit(t, "turned", s, p, c.req, c.best, c.due...)
			slices.Reverse(s.Nodes)
			slices.Reverse(c.due)
			nodesFit(t, "with its nodes turned", s, p, c.req, c.best, c.due...)
		})
	}
}

// The nodes' order counts, not that of their Ids.
func TestFitsInTheNodesOrder(t *testing.T) { // P14.1
	s := nodes(api.Vec{3}, api.Vec{3}, api.Vec{2}, api.Vec{3}, api.Vec{2})
	for i, id := range []int{8, 3, 11, 1, 7} {
		s.Nodes[i].Id = id
	}
	nodesFit(t, "Ids in no order", s, api.State{}, api.Vec{1}, 11, 8, 3, 11, 1, 7)
	nodesFit(t, "Ids in no order", s, api.State{}, api.Vec{3}, 8, 8, 3, 1)
}

// Where nothing is held, and where what is held, or used, leaves just so much.
func TestWhatIsHeldOrUsedIsNotLeft(t *testing.T) { // P14.1
	for i := range 4 {
		var capacity, held, req api.Vec
		capacity[i], held[i], req[i] = 6, 2, 1
		s := nodes(capacity, capacity)
		s.Nodes[1].Held = held
		nodesFit(t, "held", s, api.State{}, req, 2, 1, 2)
		p := pods(api.Pod{Id: 4, Req: req, Node: 1}, api.Pod{Id: 5, Req: held, Node: 1}, api.Pod{Id: 6, Req: capacity})
		nodesFit(t, "used", s, p, req, 1, 1, 2)
		req[i] = 3
		nodesFit(t, "just so much", s, p, req, 1, 1, 2)
		req[i] = 4
		nodesFit(t, "one more", s, p, req, 2, 2)
		req[i] = 5
		nodesFit(t, "one more than that", s, p, req, 0)
	}
}

// A node without a rest is none of them, however little is asked for: its use
// goes over, or it has no room, for what is held or for what is used.
func TestNodesWithoutARest(t *testing.T) { // P14.1
	s := nodes(api.Vec{5}, api.Vec{top}, api.Vec{5}, api.Vec{5}, api.Vec{5})
	s.Nodes[2].Held = api.Vec{0, 0, 0, 1}
	p := pods(
		api.Pod{Id: 1, Req: api.Vec{top}, Node: 2},
		api.Pod{Id: 2, Req: api.Vec{1}, Node: 2},
		api.Pod{Id: 3, Req: api.Vec{6}, Node: 4},
	)
	nodesFit(t, "no rests", s, p, api.Vec{}, 1, 1, 5)
	nodesFit(t, "no rests", s, p, api.Vec{5}, 1, 1, 5)
	nodesFit(t, "no rests", s, p, api.Vec{6}, 0)
	p.Pods[1].Req = api.Vec{}
	nodesFit(t, "one of them just has one", s, p, api.Vec{}, 2, 1, 2, 5)
	p.Pods = append(p.Pods, api.Pod{Id: 4, Req: api.Vec{0, 1}, Node: 1}, api.Pod{Id: 5, Req: api.Vec{6}, Node: 5})
	nodesFit(t, "just that one has one", s, p, api.Vec{}, 2, 2)
	nodesFit(t, "just that one has one", s, p, api.Vec{1}, 0)
	p.Pods[1].Req = api.Vec{top}
	nodesFit(t, "none has one", s, p, api.Vec{}, 0)
}

// What is asked for isn't added to what is used, but taken from what is left:
// together they may be more than an amount holds.
func TestGreatRequests(t *testing.T) { // P14.1, P1
	s := nodes(api.Vec{top, top}, api.Vec{top, top})
	p := pods(api.Pod{Id: 1, Req: api.Vec{1, 2}, Node: 1})
	nodesFit(t, "great", s, p, api.Vec{top - 1, top - 2}, 1, 1, 2)
	nodesFit(t, "great", s, p, api.Vec{top, 0}, 2, 2)
	nodesFit(t, "great", s, p, api.Vec{top, top}, 2, 2)
	nodesFit(t, "great", s, p, api.Vec{1, top - 1}, 2, 2)
}

// A node of an Id that another one ahead of it has is where that one is
// (layer 6's Rest), and it is told as often as it stands there.
func TestNodesOfOneId(t *testing.T) { // P14.1, P1
	s := nodes(api.Vec{5}, api.Vec{9}, api.Vec{1}, api.Vec{2})
	s.Nodes[2].Id, s.Nodes[3].Id = 1, 2
	nodesFit(t, "one Id", s, api.State{}, api.Vec{1}, 1, 1, 2, 1, 2)
	nodesFit(t, "one Id", s, api.State{}, api.Vec{5}, 1, 1, 2, 1, 2)
	nodesFit(t, "one Id", s, api.State{}, api.Vec{9}, 2, 2, 2)
	p := pods(api.Pod{Id: 1, Req: api.Vec{5}, Node: 2})
	nodesFit(t, "one Id", s, p, api.Vec{1}, 2, 1, 2, 1, 2)
	nodesFit(t, "one Id", s, p, api.Vec{5}, 1, 1, 1)
}

// A snapshot without nodes, whatever pods say of where they are.
func TestNoNodes(t *testing.T) { // P14.1, P14.2
	for _, s := range []api.Snapshot{{}, {Nodes: []api.Node{}}, {Loads: yard().Loads, Pods: yard().Pods}} {
		for _, p := range []api.State{{}, {Pods: []api.Pod{}}, state.First(yard()), pods(api.Pod{Id: 3, Node: 1})} {
			for _, req := range []api.Vec{{}, {1, 2, 3, 4}, {top, top, top, top}} {
				nodesFit(t, "no nodes", s, p, req, 0)
			}
			var at []int
			for _, q := range p.Pods {
				at = append(at, q.Node)
			}
			for _, best := range []bool{false, true} {
				packed(t, "no nodes", s, p, p.Pods, best, 0, at...)
				packed(t, "no nodes", s, p, yard().Pods, best, 0, at...)
			}
		}
	}
}

func TestFirstAndBest(t *testing.T) { // P14.1
	for _, c := range []struct {
		name  string
		rests []api.Vec
		best  int
		due   []int
	}{
		{"one node", []api.Vec{{2, 1}}, 1, []int{1}},
		{"the same", []api.Vec{{3, 1}, {4, 1}, {5, 1}}, 1, []int{1, 2, 3}},
		{"the last one", []api.Vec{{5, 1}, {4, 1}, {3, 1}}, 3, []int{1, 2, 3}},
		{"one between", []api.Vec{{5, 1}, {3, 1}, {4, 1}}, 2, []int{1, 2, 3}},
		{"a tighter one has no room", []api.Vec{{5, 1}, {1, 1}, {4, 1}, {2}}, 3, []int{1, 3}},
		{"the first ones have no room", []api.Vec{{1, 1}, {}, {3, 4}, {2, 5}}, 3, []int{3, 4}},
		{"two leave the same", []api.Vec{{5, 1}, {4, 1}, {4, 1}, {6, 1}}, 2, []int{1, 2, 3, 4}},
		{"two leave the same numbers in another order", []api.Vec{{9, 9}, {2, 5, 7, 3}, {9, 6}, {5, 1, 7, 4}, {2, 5, 3, 7}}, 2, []int{1, 2, 3, 4, 5}},
		{"all leave the same", []api.Vec{{7, 1}, {2, 6}, {2, 1, 5}, {2, 1, 0, 5}}, 1, []int{1, 2, 3, 4}},
		{"one just fits", []api.Vec{{2, 1, 0, 1}, {2, 1}, {2, 1}}, 2, []int{1, 2, 3}},
		{"less in all, but the greatest number is the greater one", []api.Vec{{6, 5, 4, 4}, {7, 1}}, 1, []int{1, 2}},
		{"the second number tells", []api.Vec{{7, 4, 1, 1}, {7, 2, 2, 2}}, 2, []int{1, 2}},
		{"the third number tells", []api.Vec{{7, 4, 3, 0}, {7, 4, 2, 2}}, 2, []int{1, 2}},
		{"the fourth number tells", []api.Vec{{7, 3, 2, 2}, {7, 3, 2, 1}, {7, 3, 2, 0}}, 3, []int{1, 2, 3}},
		{"what is left tells, not the rest", []api.Vec{{6, 1}, {5, 5}}, 1, []int{1, 2}},
		{"what is left tells, the other way", []api.Vec{{3, 6}, {6, 3}}, 2, []int{1, 2}},
		{"none has room", []api.Vec{{1, 1}, {2, 0}, {}}, 0, nil},
	} {
		t.Run(c.name, func(t *testing.T) {
			nodesFit(t, "a request of 2 1", nodes(c.rests...), api.State{}, api.Vec{2, 1}, c.best, c.due...)
		})
	}
}

// A node of Id 0, and of one below, in a snapshot that may not be, is one of
// them; the pods that are nowhere are at Node 0.
func TestNodeIdsThatMayNotBe(t *testing.T) { // P14.1, P1
	s := nodes(api.Vec{5}, api.Vec{4}, api.Vec{7}, api.Vec{4})
	for i, id := range []int{-3, 0, math.MaxInt, math.MinInt} {
		s.Nodes[i].Id = id
	}
	nodesFit(t, "any Ids", s, api.State{}, api.Vec{1}, 0, -3, 0, math.MaxInt, math.MinInt)
	p := pods(api.Pod{Id: 1, Req: api.Vec{1}, Node: -3}, api.Pod{Id: 2, Req: api.Vec{3}}, api.Pod{Id: 3, Req: api.Vec{5}, Node: math.MaxInt})
	nodesFit(t, "any Ids", s, p, api.Vec{1}, 0, -3, 0, math.MaxInt, math.MinInt)
	nodesFit(t, "any Ids", s, p, api.Vec{2}, math.MaxInt, -3, math.MaxInt, math.MinInt)
	s.Nodes = s.Nodes[1:2]
	nodesFit(t, "node 0 alone", s, p, api.Vec{1}, 0, 0)
	nodesFit(t, "node 0 alone", s, p, api.Vec{2}, 0)
}

func TestOrder(t *testing.T) { // P14.2
	ordered(t, "none", nil)
	ordered(t, "none", []api.Pod{})
	one := api.Pod{Id: -1, Load: -2, Prio: -3, Req: api.Vec{top}, Node: -4}
	ordered(t, "one", []api.Pod{one}, one)
	falling := []api.Pod{
		{Id: 9, Prio: 0, Req: api.Vec{0, 8, 0, 0}},            // the greatest number is greater
		{Id: 8, Prio: 1, Req: api.Vec{7, 7, 7, 7}},            // than that of those behind, or the second one
		{Id: 7, Prio: 2, Req: api.Vec{5, 6, 7, 6}, Node: 3},   // or the third one
		{Id: 6, Prio: 3, Req: api.Vec{5, 6, 5, 7}},            // or the fourth one
		{Id: 20, Prio: 9, Req: api.Vec{4, 5, 6, 7}},           // or it is alike, and the Prio is greater
		{Id: 21, Prio: 8, Req: api.Vec{7, 6, 5, 4}, Node: 4},  // than that of those behind
		{Id: 3, Prio: 7, Req: api.Vec{4, 5, 6, 7}, Load: 100}, // or that is alike, and the Id is less
		{Id: 4, Prio: 7, Req: api.Vec{7, 6, 5, 4}},            // than that of those behind
		{Id: 5, Prio: 7, Req: api.Vec{4, 5, 6, 7}, Load: -1},
		{Id: 1, Prio: 100, Req: api.Vec{}},
		{Id: 2, Prio: 100, Req: api.Vec{}},
	}
	for i := range falling {
		l := slices.Concat(falling[i:], falling[:i])
		ordered(t, "rotated", l, falling...)
		slices.Reverse(l)
		ordered(t, "turned", l, falling...)
	}
	for i := range falling {
		for k := range i {
			ordered(t, "two", []api.Pod{falling[i], falling[k]}, falling[k], falling[i])
			ordered(t, "two", []api.Pod{falling[k], falling[i]}, falling[k], falling[i])
		}
	}
}

// Of pods that are alike in Req, Prio and Id the one that stands ahead is the
// one ahead, whatever their Loads, their Nodes and the order of the numbers of
// their Reqs are.
func TestOrderOfPodsThatAreAlike(t *testing.T) { // P14.2
	var alike, less []api.Pod
	for i, req := range orders(api.Vec{3, 1, 4, 1}) {
		alike = append(alike, api.Pod{Id: 6, Load: i * 5 % 7, Prio: 2, Req: req, Node: i * 3 % 11})
		less = append(less, api.Pod{Id: 6, Load: i * 3 % 11, Prio: 1, Req: req, Node: i * 5 % 7})
	}
	ordered(t, "alike", alike, alike...)
	slices.Reverse(alike)
	ordered(t, "alike, turned", alike, alike...)
	var mixed []api.Pod
	for i := range alike {
		mixed = append(mixed, less[i], alike[i])
	}
	ordered(t, "mixed with others", mixed, slices.Concat(alike, less)...)
}

// Prios and Ids below 0, and as great as an int can be: the difference of two
// may be more than an int holds.
func TestOrderOfPodsThatMayNotBe(t *testing.T) { // P14.2, P1
	rising := []int{math.MinInt, math.MinInt + 1, -1 << 32, -1, 0, 1, 1 << 32, math.MaxInt - 1, math.MaxInt}
	var due []api.Pod
	for i := range rising {
		for _, id := range rising {
			due = append(due, api.Pod{Id: id, Prio: rising[len(rising)-1-i], Req: api.Vec{top, top}})
		}
	}
	l := slices.Clone(due)
	ordered(t, "falling Prios, rising Ids", l, due...)
	slices.Reverse(l)
	ordered(t, "turned", l, due...)
}

// Where all go, and where they go, by size, with the first node that has room,
// and with the tightest one.
func TestPack(t *testing.T) { // P14.2
	s := nodes(api.Vec{9, 9, 9, 9}, api.Vec{4, 4, 4, 4}, api.Vec{7, 7, 7, 7})
	p := pods(
		api.Pod{Id: 1, Prio: 1, Req: api.Vec{2}},
		api.Pod{Id: 2, Prio: 2, Req: api.Vec{0, 4}},
		api.Pod{Id: 3, Prio: 3, Req: api.Vec{0, 0, 6, 0}},
		api.Pod{Id: 4, Prio: 4, Req: api.Vec{0, 3, 0, 3}},
	)
	p.Preempts, p.Shifts = 5, 6
	for _, l := range [][]api.Pod{p.Pods, {p.Pods[3], p.Pods[1], p.Pods[0], p.Pods[2]}} {
		packed(t, "all go", s, p, l, false, 4, 1, 1, 1, 1)
		packed(t, "all go", s, p, l, true, 4, 2, 2, 3, 3)
	}
	packed(t, "some are told", s, p, p.Pods[:2], false, 2, 1, 1, 0, 0)
	packed(t, "some are told", s, p, p.Pods[1:], true, 3, 0, 2, 3, 3)
	packed(t, "one is told", s, p, p.Pods[2:3], true, 1, 0, 0, 3, 0)
	for _, best := range []bool{false, true} {
		packed(t, "none is told", s, p, nil, best, 0, 0, 0, 0, 0)
		packed(t, "none is told", s, p, []api.Pod{}, best, 0, 0, 0, 0, 0)
		packed(t, "no pods", s, api.State{Preempts: -1, Shifts: 2}, p.Pods, best, 0)
		packed(t, "no pods", s, pods(), nil, best, 0)
	}
}

// The greatest one goes ahead, and what is left by then counts.
func TestPackGoesBySize(t *testing.T) { // P14.2
	s := nodes(api.Vec{10})
	p := pods(
		api.Pod{Id: 1, Prio: 9, Req: api.Vec{3}},
		api.Pod{Id: 2, Prio: 8, Req: api.Vec{8}},
		api.Pod{Id: 3, Prio: 7, Req: api.Vec{2}},
		api.Pod{Id: 4, Prio: 7, Req: api.Vec{1}},
	)
	for _, best := range []bool{false, true} {
		packed(t, "the greater ones", s, p, p.Pods, best, 2, 0, 1, 1, 0)
		p.Pods[1].Req[0] = 10
		packed(t, "the greatest one", s, p, p.Pods, best, 1, 0, 1, 0, 0)
		p.Pods[1].Req[0] = 11
		packed(t, "the greatest one has no room", s, p, p.Pods, best, 3, 1, 0, 1, 1)
		p.Pods[1].Req[0] = 8
	}
	alike := pods(
		api.Pod{Id: 6, Prio: 1, Req: api.Vec{6}},
		api.Pod{Id: 7, Prio: 3, Req: api.Vec{0, 6}},
		api.Pod{Id: 8, Prio: 3, Req: api.Vec{0, 6}},
		api.Pod{Id: 9, Prio: 2, Req: api.Vec{6, 0}},
	)
	s = nodes(api.Vec{6, 6})
	for _, best := range []bool{false, true} {
		packed(t, "the greater Prio, and the lesser Id", s, alike, alike.Pods, best, 2, 0, 1, 0, 1)
	}
}

// Some have no room, some are somewhere already, some aren't in the state.
func TestPackOfSomeThatDoNotGo(t *testing.T) { // P14.2
	s := yard()
	p := state.First(s)
	for best, at15 := range map[bool]int{false: 2, true: 6} {
		packed(t, "as it is", s, p, s.Pods, best, 2, 2, 2, 6, 9, at15, 5, 0)
		packed(t, "with one that isn't in the state", s, p, append(s.Pods[4:5:5], api.Pod{Id: 18}, api.Pod{}, api.Pod{Id: -15}), best, 1, 2, 2, 6, 9, at15, 0, 0)
		packed(t, "those alone that have no room", s, p, s.Pods[6:], best, 0, 2, 2, 6, 9, 0, 0, 0)
		packed(t, "those alone that are somewhere", s, p, s.Pods[:4], best, 0, 2, 2, 6, 9, 0, 0, 0)
	}
}

// One that the list has somewhere, or nowhere, goes if the state has it
// nowhere.
func TestPackGoesByWhereTheStateHasIt(t *testing.T) { // P14.2
	s := nodes(api.Vec{5}, api.Vec{5})
	p := pods(api.Pod{Id: 1, Node: 2}, api.Pod{Id: 2}, api.Pod{Id: 3, Node: 77}, api.Pod{Id: 4, Node: -1})
	l := []api.Pod{{Id: 1}, {Id: 2, Node: 2}, {Id: 3}, {Id: 4}}
	packed(t, "as the state has it", s, p, l, false, 1, 2, 1, 77, -1)
	packed(t, "as the state has it", s, p, l, true, 1, 2, 1, 77, -1)
}

// The list's Reqs, Prios and Ids tell who goes ahead; where one goes, the Req
// that it has in the state tells, and that one it keeps.
func TestPackOfOtherReqs(t *testing.T) { // P14.2
	s := nodes(api.Vec{7}, api.Vec{4})
	p := pods(api.Pod{Id: 1, Req: api.Vec{6}}, api.Pod{Id: 2, Req: api.Vec{2}}, api.Pod{Id: 3, Req: api.Vec{3}})
	packed(t, "as the state has them", s, p, p.Pods, false, 2, 1, 0, 2)
	l := []api.Pod{{Id: 1, Req: api.Vec{1}}, {Id: 2, Req: api.Vec{2}}, {Id: 3, Req: api.Vec{3}}}
	packed(t, "the greatest one is the least one of the list", s, p, l, false, 2, 0, 1, 1)
	packed(t, "the greatest one is the least one of the list", s, p, l, true, 2, 0, 1, 2)
	for i := range l {
		l[i].Req = api.Vec{top, top, top, top}
	}
	packed(t, "of the list none would have room", s, p, l, false, 2, 1, 2, 0)
	l[2].Prio = 1
	packed(t, "the list's Prios", s, p, l, false, 2, 0, 1, 1)
	big := pods(api.Pod{Id: 1, Req: api.Vec{8}}, api.Pod{Id: 2, Req: api.Vec{0, 1}})
	packed(t, "of the list all would have room", s, big, []api.Pod{{Id: 1}, {Id: 2}}, false, 0, 0, 0)
}

// One that is told twice goes once.
func TestPackOfOneToldTwice(t *testing.T) { // P14.2
	s := nodes(api.Vec{5}, api.Vec{5})
	p := pods(api.Pod{Id: 1, Req: api.Vec{2}}, api.Pod{Id: 2, Req: api.Vec{3}}, api.Pod{Id: 3, Req: api.Vec{6}})
	for _, best := range []bool{false, true} {
		packed(t, "told twice", s, p, []api.Pod{p.Pods[0], p.Pods[0]}, best, 1, 1, 0, 0)
		packed(t, "told twice, in two ways", s, p, []api.Pod{{Id: 1, Req: api.Vec{1}}, {Id: 1, Req: api.Vec{top}}, {Id: 1, Node: 1}}, best, 1, 1, 0, 0)
		packed(t, "all are told twice", s, p, slices.Concat(p.Pods, p.Pods), best, 2, 1, 1, 0)
	}
}

// Of one that stands in the state twice the first one counts, and goes.
func TestPackOfOneThatStandsTwice(t *testing.T) { // P14.2
	s := nodes(api.Vec{9}, api.Vec{2})
	p := pods(api.Pod{Id: 1, Req: api.Vec{5}}, api.Pod{Id: 2, Req: api.Vec{2}}, api.Pod{Id: 1, Req: api.Vec{1}}, api.Pod{Id: 2, Req: api.Vec{1}, Node: 1})
	l := []api.Pod{{Id: 1}, {Id: 2}}
	packed(t, "both nowhere, and the second one somewhere", s, p, l, false, 2, 1, 1, 0, 1)
	packed(t, "both nowhere, and the second one somewhere", s, p, l, true, 2, 1, 2, 0, 1)
	packed(t, "told twice, too", s, p, slices.Concat(l, l, l), true, 2, 1, 2, 0, 1)
	p.Pods[0].Node = 2
	packed(t, "the first one somewhere", s, p, l[:1], true, 0, 2, 0, 0, 1)
	packed(t, "the first one somewhere", s, p, p.Pods, false, 1, 2, 1, 0, 1)
}

// None goes to a node of Id 0: the one that is chosen, and not another one in
// its place.
func TestPackAtANodeOfId0(t *testing.T) { // P14.2, P1
	s := nodes(api.Vec{9}, api.Vec{20})
	s.Nodes[0].Id = 0
	p := pods(api.Pod{Id: 1, Req: api.Vec{3}}, api.Pod{Id: 2, Req: api.Vec{1}})
	// Node 0 has 5, for both are there.
	packed(t, "node 0 is first and best", s, p, p.Pods, false, 0, 0, 0)
	packed(t, "node 0 is first and best", s, p, p.Pods, true, 0, 0, 0)
	slices.Reverse(s.Nodes)
	packed(t, "node 0 is best", s, p, p.Pods, false, 2, 2, 2)
	packed(t, "node 0 is best", s, p, p.Pods, true, 0, 0, 0)
	slices.Reverse(s.Nodes)
	s.Nodes[1].Cap = api.Vec{4}
	packed(t, "node 0 is first", s, p, p.Pods, false, 0, 0, 0)
	packed(t, "node 0 is first", s, p, p.Pods, true, 2, 2, 2)
	s.Nodes[0].Cap = api.Vec{6}
	// Node 0 has 2, which is too little for the first one; with that gone it
	// has 5, and is first for the other one.
	packed(t, "node 0 has room later", s, p, p.Pods, false, 1, 2, 0)
	packed(t, "node 0 has room later", s, p, p.Pods, true, 2, 2, 2)

	// Node 0 is best for the first one, as long as the other one, for which it
	// has no room, is there too.
	s = nodes(api.Vec{5, 9}, api.Vec{8, 9})
	s.Nodes[0].Id = 0
	p = pods(api.Pod{Id: 1, Req: api.Vec{1}}, api.Pod{Id: 2, Req: api.Vec{0, 9}})
	l := []api.Pod{{Id: 1, Req: api.Vec{9}}, {Id: 2, Req: api.Vec{8}}, {Id: 1, Req: api.Vec{7}}}
	packed(t, "told ahead of the other one", s, p, l[:2], true, 1, 0, 2)
	packed(t, "told behind it", s, p, l[1:], true, 2, 2, 2)
	packed(t, "told ahead of it, and behind it", s, p, l, true, 2, 2, 2)
}

// Nodes of one Id are the first one of them: one goes there as long as that
// has room.
func TestPackAtNodesOfOneId(t *testing.T) { // P14.2, P1
	s := nodes(api.Vec{5}, api.Vec{9})
	s.Nodes[1].Id = 1
	p := pods(api.Pod{Id: 1, Req: api.Vec{3}}, api.Pod{Id: 2, Req: api.Vec{3}}, api.Pod{Id: 3, Req: api.Vec{2}})
	packed(t, "one Id", s, p, p.Pods, false, 2, 1, 0, 1)
	packed(t, "one Id", s, p, p.Pods, true, 2, 1, 0, 1)
}

// A node that has no rest takes none, not even one that asks for nothing.
func TestPackAtNodesWithoutARest(t *testing.T) { // P14.2
	s := nodes(api.Vec{5}, api.Vec{5})
	p := pods(api.Pod{Id: 1, Req: api.Vec{6}, Node: 1}, api.Pod{Id: 2}, api.Pod{Id: 3, Req: api.Vec{4}})
	packed(t, "no rest", s, p, p.Pods, false, 2, 1, 2, 2)
	packed(t, "no rest", s, p, p.Pods, true, 2, 1, 2, 2)
	p.Pods = append(p.Pods, api.Pod{Id: 4, Req: api.Vec{top}, Node: 2}, api.Pod{Id: 5, Req: api.Vec{1}, Node: 2})
	packed(t, "no rests", s, p, p.Pods, false, 0, 1, 0, 0, 2, 2)
	packed(t, "no rests", s, p, p.Pods, true, 0, 1, 0, 0, 2, 2)
}

// Where there was room at all nodes there is behind a Pack, too.
func TestRoomStaysRoom(t *testing.T) { // P14.4
	s := yard()
	for _, best := range []bool{false, true} {
		p, went := Pack(s, state.First(s), s.Pods, best)
		if err := room.Check(s, p); err != nil || went != 2 {
			t.Errorf("%v, %d: %v", p, went, err)
		}
	}
}

// Lists far longer than those that may be.
func TestLongLists(t *testing.T) { // P1
	var s api.Snapshot
	var ids []int
	for i := range 300 {
		s.Nodes = append(s.Nodes, api.Node{Id: 300 - i, Cap: api.Vec{uint64(2 + i)}})
		ids = append(ids, 300-i)
	}
	nodesFit(t, "long", s, api.State{}, api.Vec{1}, 300, ids...)

	var p api.State
	for i := range 1_000 {
		p.Pods = append(p.Pods, api.Pod{Id: 1_000 - i, Prio: i, Req: api.Vec{uint64(i % 2)}})
	}
	var due []api.Pod
	for i := 999; i > 0; i -= 2 {
		due = append(due, p.Pods[i])
	}
	for i := 998; i >= 0; i -= 2 {
		due = append(due, p.Pods[i])
	}
	ordered(t, "long", p.Pods, due...)

	// The first node is full with two of those that ask for something, the next
	// one with three more, and so on; those that ask for nothing fit there still.
	got, went := Pack(s, p, p.Pods, false)
	if went != 1_000 || room.Check(s, got) != nil {
		t.Errorf("%d went: %v", went, room.Check(s, got))
	}
	for i, node := range map[int]int{999: 300, 997: 300, 995: 299, 993: 299, 991: 299, 989: 298, 998: 300, 500: 300, 0: 300} {
		if q := got.Pods[i]; q.Node != node {
			t.Errorf("%v is not at node %d", q, node)
		}
	}
}

// What is handed in stays as it is, and the same call is told the same.
func TestHandedInStays(t *testing.T) { // P14.3, R2, R4
	s, p, l := yard(), state.First(yard()), yard().Pods
	slices.Reverse(l)
	p.Preempts, p.Shifts = 3, 4
	due := slices.Clone(l)
	a, b := api.Vec{1, 9, 2, 8}, api.Vec{8, 2, 9, 1}
	for _, req := range []api.Vec{{}, {1, 1, 0, 0}, {4, 1, 0, 0}, {top}} {
		given := req
		if !slices.Equal(Fits(s, p, req), Fits(s, p, req)) || First(s, p, req) != First(s, p, req) || Best(s, p, req) != Best(s, p, req) {
			t.Errorf("%v is told in two ways", req)
		}
		if Tighter(a, b) || Tighter(req, req) || req != given {
			t.Errorf("of %v came %v", given, req)
		}
	}
	for _, best := range []bool{false, true} {
		one, many := Pack(s, p, l, best)
		two, again := Pack(s, p, l, best)
		if !state.Same(one, two) || many != again || many != 2 {
			t.Errorf("%v, %d, and then %v, %d", one, many, two, again)
		}
	}
	if !slices.Equal(Order(l), Order(l)) {
		t.Errorf("%v is ordered in two ways", l)
	}
	first := state.First(yard())
	first.Preempts, first.Shifts = 3, 4
	if !reflect.DeepEqual(s, yard()) || !reflect.DeepEqual(p, first) || !reflect.DeepEqual(l, due) {
		t.Errorf("handed in became %v, %v, %v", s, p, l)
	}
	if a != (api.Vec{1, 9, 2, 8}) || b != (api.Vec{8, 2, 9, 1}) {
		t.Errorf("the amounts became %v, %v", a, b)
	}
}

// What is told is new memory: a later change of it changes nothing that was
// handed in, nor what was told otherwise; and the other way round.
func TestWhatIsToldIsNew(t *testing.T) { // P14.3, R2
	spoil := func(l []api.Pod) {
		for i := range l[:cap(l)] {
			l[:cap(l)][i] = api.Pod{Id: 77, Node: 78}
		}
	}
	s := yard()
	one, two := Fits(s, state.First(s), api.Vec{}), Fits(s, state.First(s), api.Vec{})
	for i := range one[:cap(one)] {
		one[:cap(one)][i] = 77
	}
	if !slices.Equal(two, []int{2, 5, 6, 9}) || !reflect.DeepEqual(s, yard()) {
		t.Errorf("the other list became %v, the snapshot %v", two, s)
	}

	for _, l := range [][]api.Pod{yard().Pods, yard().Pods[:1]} { // one alone is in order as it is
		due := slices.Clone(l)
		first, second := Order(l), Order(l)
		dueOrder := slices.Clone(first)
		spoil(first)
		if !slices.Equal(l, due) || !slices.Equal(second, dueOrder) {
			t.Errorf("of a changed Order came %v, %v", l, second)
		}
		spoil(l)
		if !slices.Equal(second, dueOrder) {
			t.Errorf("of a changed list came %v", second)
		}
	}

	for _, best := range []bool{false, true} {
		for _, many := range []int{7, 4, 0} { // two go, none goes, none is told
			s, p, l := yard(), state.First(yard()), yard().Pods[:many]
			first, _ := Pack(s, p, l, best)
			second, _ := Pack(s, p, l, best)
			due := slices.Clone(second.Pods)
			spoil(first.Pods)
			if !reflect.DeepEqual(s, yard()) || !reflect.DeepEqual(p, state.First(yard())) || !slices.Equal(l, yard().Pods[:many]) || !slices.Equal(second.Pods, due) {
				t.Errorf("best %v: of a changed Pack of %d came %v, %v, %v, %v", best, many, s, p, l, second)
			}
			spoil(p.Pods)
			spoil(s.Pods)
			spoil(l)
			if !slices.Equal(second.Pods, due) {
				t.Errorf("best %v: of a changed state came %v", best, second)
			}
		}
	}
}

// What lies behind a list's end, within its memory, is neither looked at nor
// changed.
func TestWhatLiesBehindAList(t *testing.T) { // R2
	s, p, l := yard(), state.First(yard()), yard().Pods
	s.Nodes, p.Pods, l = s.Nodes[:2], p.Pods[:5], l[:4]
	nodesFit(t, "nodes behind", s, p, api.Vec{}, 2, 2, 5)
	if got, went := Pack(s, p, l, true); went != 0 || !slices.Equal(got.Pods, p.Pods) {
		t.Errorf("%v, %d", got, went)
	}
	l = append(l[:3], yard().Pods[4:6]...) // 16 isn't in the state
	packed(t, "pods behind", s, p, l, false, 1, 2, 2, 6, 9, 2)
	ordered(t, "pods behind", l[2:4], l[3], l[2])
	if !reflect.DeepEqual(s.Nodes[:4], yard().Nodes) || !reflect.DeepEqual(p.Pods[:7], yard().Pods) || l[:7][6] != yard().Pods[6] {
		t.Errorf("what lies behind became %v, %v, %v", s.Nodes[:4], p.Pods[:7], l[:7])
	}
}
