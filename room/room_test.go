package room

import (
	"errors"
	"math"
	"reflect"
	"slices"
	"testing"

	"dunnage/api"
	"dunnage/cluster"
	"dunnage/state"
)

const top = 1<<64 - 1

// at is an amount with v at place i, and 1 at the other three.
func at(i int, v uint64) api.Vec {
	r := api.Vec{1, 1, 1, 1}
	r[i] = v
	return r
}

// only is an amount with v at place i, and nothing else.
func only(i int, v uint64) api.Vec {
	var r api.Vec
	r[i] = v
	return r
}

// pods are some at this node with these Reqs.
func pods(node int, reqs ...api.Vec) api.State {
	var t api.State
	for i, r := range reqs {
		t.Pods = append(t.Pods, api.Pod{Id: i + 1, Load: 7, Req: r, Node: node})
	}
	return t
}

// yard is a snapshot that may be: at node 1 pods 2, 6 and 8, at node 4 pod 3,
// at node 8 none, nowhere pods 5 and 9.
func yard() api.Snapshot {
	return api.Snapshot{
		Nodes: []api.Node{
			{Id: 1, Zone: 1, Cap: api.Vec{20, 30, 40, 50}, Held: api.Vec{1, 2, 3, 4}},
			{Id: 4, Zone: 1, Cap: api.Vec{9, 9, 9, 9}},
			{Id: 8, Zone: 2, Cap: api.Vec{7, 6, 5, 4}, Held: api.Vec{7, 0, 5, 1}},
		},
		Loads: []api.Load{{Id: 7, Max: 9}},
		Pods: []api.Pod{
			{Id: 2, Load: 7, Req: api.Vec{1, 2, 3, 4}, Node: 1},
			{Id: 3, Load: 7, Req: api.Vec{9, 0, 1, 2}, Node: 4},
			{Id: 5, Load: 7, Req: api.Vec{100, 0, 0, 1}},
			{Id: 6, Load: 7, Req: api.Vec{5, 0, 0, 1}, Node: 1},
			{Id: 8, Load: 7, Req: api.Vec{0, 0, 10, 0}, Node: 1},
			{Id: 9, Load: 7, Req: api.Vec{0, 200, 0, 1}},
		},
	}
}

// told holds an amount against the one that is due, and an error against the
// Code itself, or nil; beside an error the amount is the zero one (R3).
func told(t *testing.T, call string, got api.Vec, err error, want api.Vec, wantErr error) {
	t.Helper()
	if err != wantErr {
		t.Errorf("%s: error %v (%T), want %v", call, err, err, wantErr)
	}
	if got != want {
		t.Errorf("%s: %v, want %v", call, got, want)
	}
}

// faulty holds what Check tells against a Spot.
func faulty(t *testing.T, call string, err error, place int, want api.Code) {
	t.Helper()
	if !reflect.DeepEqual(err, error(&api.Spot{At: place, Err: want})) {
		t.Errorf("%s: %v (%T), want %v at %d", call, err, err, want, place)
	}
	if !errors.Is(err, want) {
		t.Errorf("%s: %v isn't %v", call, err, want)
	}
}

func TestTheSampleMayBe(t *testing.T) {
	if err := cluster.Check(yard()); err != nil {
		t.Error(err)
	}
}

func TestUse(t *testing.T) { // P6.1
	state := state.First(yard())
	for _, c := range []struct {
		name string
		node int
		want api.Vec
	}{
		{"several pods", 1, api.Vec{6, 2, 13, 5}},
		{"one pod", 4, api.Vec{9, 0, 1, 2}},
		{"no pods", 8, api.Vec{}},
		{"nowhere", 0, api.Vec{100, 200, 0, 2}},
		{"a node that isn't there", 2, api.Vec{}},
		{"a node below 0", -1, api.Vec{}},
		{"the greatest node", api.MaxId, api.Vec{}},
		{"beyond all nodes", math.MaxInt, api.Vec{}},
		{"below all nodes", math.MinInt, api.Vec{}},
	} {
		for range 2 {
			use, err := Use(state, c.node)
			told(t, "Use of "+c.name, use, err, c.want, nil)
			use, err = Use(api.State{Preempts: 1, Shifts: 1}, c.node)
			told(t, "Use without pods of "+c.name, use, err, api.Vec{}, nil)
		}
	}
}

// A use is of all that say that they are there: whether a snapshot has the
// node, and an Id is there once, is nothing to it.
func TestUseOfPodsThatMayNotBe(t *testing.T) { // P6.1, P1
	state := api.State{Pods: []api.Pod{
		{Id: 1, Req: api.Vec{1}, Node: -3},
		{Id: 1, Req: api.Vec{2}, Node: math.MaxInt},
		{Id: 0, Req: api.Vec{4}, Node: -3},
		{Id: 1, Req: api.Vec{8}, Node: math.MaxInt},
		{Id: -5, Req: api.Vec{16}, Node: -3},
		{Id: 1, Req: api.Vec{32}},
	}}
	for node, due := range map[int]uint64{-3: 21, math.MaxInt: 10, 0: 32, 1: 0} {
		use, err := Use(state, node)
		told(t, "Use", use, err, api.Vec{due}, nil)
	}
}

// More pods than may be are all counted.
func TestUseOfManyPods(t *testing.T) { // P6.1
	for _, many := range []int{1, api.MaxPods - 1, api.MaxPods, api.MaxPods + 1, 1000} {
		use, err := Use(pods(3, slices.Repeat([]api.Vec{{1, 2, 0, 3}}, many)...), 3)
		n := uint64(many)
		told(t, "Use of many", use, err, api.Vec{n, 2 * n, 0, 3 * n}, nil)
	}
}

func TestUseThatGoesOver(t *testing.T) { // P6.1, R3
	for _, node := range []int{0, 3} {
		for i := range 4 {
			want := api.Vec{2, 2, 2, 2}
			want[i] = top
			use, err := Use(pods(node, at(i, top-1), at(i, 1)), node)
			told(t, "Use just within", use, err, want, nil)
			use, err = Use(pods(node, at(i, top)), node)
			told(t, "Use of the greatest", use, err, at(i, top), nil)
			use, err = Use(pods(node, at(i, top), at(i, 1)), node)
			told(t, "Use just over", use, err, api.Vec{}, api.ErrOver)
			use, err = Use(pods(node, at(i, 1), at(i, top), at(i, 0)), node)
			told(t, "Use just over, turned", use, err, api.Vec{}, api.ErrOver)
			use, err = Use(pods(node, at(i, 1<<63), at(i, 0), at(i, 1<<63)), node)
			told(t, "Use of just 2^64", use, err, api.Vec{}, api.ErrOver)
			use, err = Use(pods(node, at(i, top), at(i, top)), node)
			told(t, "Use far over", use, err, api.Vec{}, api.ErrOver)
			use, err = Use(pods(node, at(i, top), at(i, top)), node+1)
			told(t, "Use of another node", use, err, api.Vec{}, nil)
		}
	}
}

func TestRest(t *testing.T) { // P6.1
	s := yard()
	state := state.First(s)
	for _, c := range []struct {
		name string
		node int
		rest api.Vec
		none api.Vec // the rest where there are no pods
	}{
		{"several pods", 1, api.Vec{13, 26, 24, 41}, api.Vec{19, 28, 37, 46}},
		{"one pod", 4, api.Vec{0, 9, 8, 7}, api.Vec{9, 9, 9, 9}},
		{"no pods", 8, api.Vec{0, 6, 0, 3}, api.Vec{0, 6, 0, 3}},
	} {
		for range 2 {
			rest, err := Rest(s, state, c.node)
			told(t, "Rest of "+c.name, rest, err, c.rest, nil)
			rest, err = Rest(s, api.State{}, c.node)
			told(t, "Rest without pods of "+c.name, rest, err, c.none, nil)
		}
	}
}

func TestRestOfANodeThatIsNotThere(t *testing.T) { // P6.1, R1, R3
	for _, node := range []int{0, -1, 2, 3, 7, 9, api.MaxId, math.MaxInt, math.MinInt} {
		for name, state := range map[string]api.State{
			"no pods":                 {},
			"the snapshot's pods":     state.First(yard()),
			"pods there":              pods(node, api.Vec{1}, api.Vec{2}),
			"pods there that go over": pods(node, api.Vec{top}, api.Vec{top}),
		} {
			for _, s := range []api.Snapshot{{}, yard()} {
				rest, err := Rest(s, state, node)
				told(t, "Rest, "+name, rest, err, api.Vec{}, api.ErrNone)
			}
		}
	}
}

// one is a snapshot of the one node 3.
func one(capacity, held api.Vec) api.Snapshot {
	return api.Snapshot{Nodes: []api.Node{{Id: 3, Zone: 1, Cap: capacity, Held: held}}}
}

// restAndCheck holds both against what is due of the one node 3.
func restAndCheck(t *testing.T, name string, s api.Snapshot, state api.State, want api.Vec, code api.Code) {
	t.Helper()
	rest, err := Rest(s, state, 3)
	if code == 0 {
		told(t, "Rest, "+name, rest, err, want, nil)
		if err := Check(s, state); err != nil {
			t.Errorf("Check, %s: %v", name, err)
		}
		return
	}
	told(t, "Rest, "+name, rest, err, api.Vec{}, code)
	faulty(t, "Check, "+name, Check(s, state), 0, code)
}

func TestRoomInEachAmount(t *testing.T) { // P6.1, R3
	for i := range 4 {
		none := api.State{}
		restAndCheck(t, "Held is Cap", one(at(i, 7), at(i, 7)), none, api.Vec{}, 0)
		restAndCheck(t, "Held just above Cap", one(at(i, 7), at(i, 8)), none, api.Vec{}, api.ErrRoom)
		restAndCheck(t, "Held far above Cap", one(at(i, 0), at(i, top)), none, api.Vec{}, api.ErrRoom)
		restAndCheck(t, "Held and Cap the greatest", one(at(i, top), at(i, top)), none, api.Vec{}, 0)

		s := one(at(i, 10), only(i, 4))
		left := at(i, 6)
		restAndCheck(t, "nothing is used", s, pods(3, api.Vec{}), left, 0)
		restAndCheck(t, "one just fits", s, pods(3, left), api.Vec{}, 0)
		restAndCheck(t, "two just fit", s, pods(3, at(i, 4), only(i, 2)), api.Vec{}, 0)
		restAndCheck(t, "less than fits", s, pods(3, only(i, 4), only(i, 1)), at(i, 1), 0)
		restAndCheck(t, "one just doesn't fit", s, pods(3, at(i, 7)), api.Vec{}, api.ErrRoom)
		restAndCheck(t, "two just don't fit", s, pods(3, only(i, 5), only(i, 2)), api.Vec{}, api.ErrRoom)
		restAndCheck(t, "what fits in Cap, but not beside Held", s, pods(3, at(i, 10)), api.Vec{}, api.ErrRoom)
		restAndCheck(t, "the greatest", s, pods(3, only(i, top)), api.Vec{}, api.ErrRoom)
		restAndCheck(t, "just over", s, pods(3, only(i, top), only(i, 1)), api.Vec{}, api.ErrOver)
		restAndCheck(t, "far over", s, pods(3, only(i, top), only(i, top)), api.Vec{}, api.ErrOver)
	}
}

// Held and use together go over 2^64 - 1, neither does alone.
func TestHeldAndUseTogether(t *testing.T) { // P6.1
	for i := range 4 {
		s := one(only(i, top), only(i, top-1))
		restAndCheck(t, "just fits beside much", s, pods(3, only(i, 1)), api.Vec{}, 0)
		restAndCheck(t, "just doesn't fit beside much", s, pods(3, only(i, 2)), api.Vec{}, api.ErrRoom)
		restAndCheck(t, "much beside much", s, pods(3, only(i, top)), api.Vec{}, api.ErrRoom)
	}
}

// Of several reasons the one is told that comes first: the node that isn't
// there, the use that goes over, the room.
func TestWhichReasonIsTold(t *testing.T) { // P6.1, R1, R3
	over := pods(3, only(0, top), only(0, top))
	restAndCheck(t, "over, and Held above Cap", one(api.Vec{}, only(0, 1)), over, api.Vec{}, api.ErrOver)
	restAndCheck(t, "over, and Held above Cap in another amount", one(api.Vec{}, only(3, 1)), over, api.Vec{}, api.ErrOver)
	over.Pods[0].Req[3] = 1
	restAndCheck(t, "over in one amount, no room in another", one(only(0, top), api.Vec{}), over, api.Vec{}, api.ErrOver)
	restAndCheck(t, "Held above Cap in one amount, no room in another", one(only(0, 1), only(1, 1)), pods(3, only(0, 2)), api.Vec{}, api.ErrRoom)

	rest, err := Rest(one(api.Vec{}, only(0, 1)), pods(4, only(0, top), only(0, top)), 4)
	told(t, "no such node, and a use that goes over", rest, err, api.Vec{}, api.ErrNone)
	rest, err = Rest(one(api.Vec{}, only(0, 1)), pods(0, only(0, top), only(0, top)), 0)
	told(t, "Node 0, and a use that goes over", rest, err, api.Vec{}, api.ErrNone)
}

func TestCheckThatTellsNil(t *testing.T) { // P6.1
	nowhere := pods(0, api.Vec{top}, api.Vec{top}, api.Vec{0, 1})
	elsewhere := pods(2, api.Vec{top}, api.Vec{top}, api.Vec{0, 1})
	for _, c := range []struct {
		name  string
		s     api.Snapshot
		state api.State
	}{
		{"nothing", api.Snapshot{}, api.State{}},
		{"empty lists", api.Snapshot{Nodes: []api.Node{}}, api.State{Pods: []api.Pod{}}},
		{"no nodes", api.Snapshot{Pods: yard().Pods, Loads: yard().Loads}, state.First(yard())},
		{"no nodes, and pods that go over", api.Snapshot{}, elsewhere},
		{"nodes that all have room", yard(), state.First(yard())},
		{"no pods", yard(), api.State{}}, // the document's example
		{"pods nowhere that go over", yard(), nowhere},
		{"pods at a node that isn't there", yard(), elsewhere},
		{"a node of nothing, with a pod of nothing", one(api.Vec{}, api.Vec{}), pods(3, api.Vec{})},
	} {
		for range 2 {
			if err := Check(c.s, c.state); err != nil {
				t.Errorf("%s: %v", c.name, err)
			}
		}
	}
}

// Each of the reasons, at one node and at another one behind it.
func TestCheckThatTellsAFault(t *testing.T) { // P6.1, R1
	spoils := []struct {
		name  string
		code  api.Code
		spoil func(s *api.Snapshot, t *api.State, i int)
	}{
		{"over", api.ErrOver, func(s *api.Snapshot, t *api.State, i int) {
			t.Pods = append(t.Pods, pods(s.Nodes[i].Id, only(i, top), only(i, top)).Pods...)
		}},
		{"Held", api.ErrRoom, func(s *api.Snapshot, t *api.State, i int) { s.Nodes[i].Held[i] = s.Nodes[i].Cap[i] + 1 }},
		{"use", api.ErrRoom, func(s *api.Snapshot, t *api.State, i int) {
			t.Pods = append(t.Pods, api.Pod{Id: 20 + i, Req: only(i, 31), Node: s.Nodes[i].Id})
		}},
	}
	for i := range 3 {
		for _, first := range spoils {
			s, state := yard(), state.First(yard())
			first.spoil(&s, &state, i)
			faulty(t, first.name, Check(s, state), i, first.code)
			for k := i + 1; k < 3; k++ {
				for _, later := range spoils {
					both, bothState := s, state
					both.Nodes, bothState.Pods = slices.Clone(s.Nodes), slices.Clone(state.Pods)
					later.spoil(&both, &bothState, k)
					slices.Reverse(bothState.Pods) // the nodes' order counts, not the pods'
					faulty(t, first.name+", and behind it "+later.name, Check(both, bothState), i, first.code)
				}
			}
		}
	}
}

// The place is that in the list, though Ids and places differ, and are in no
// order.
func TestThePlaceOfAFault(t *testing.T) { // P6.1
	s := api.Snapshot{Nodes: []api.Node{{Id: 9}, {Id: 2}, {Id: 5}, {Id: 1}, {Id: 0}, {Id: -4}}}
	for i, n := range s.Nodes {
		faulty(t, "Check", Check(s, pods(n.Id, api.Vec{1})), i, api.ErrRoom)
		faulty(t, "Check", Check(s, pods(n.Id, api.Vec{top}, api.Vec{1})), i, api.ErrOver)
	}
}

// A node's rest is that of the first node of its Id (layer 3's Node), in Check
// too.
func TestNodesOfOneId(t *testing.T) { // P6.1, P1
	s := api.Snapshot{Nodes: []api.Node{{Id: 3, Cap: api.Vec{5}}, {Id: 3, Cap: api.Vec{1}, Held: api.Vec{2}}}}
	rest, err := Rest(s, pods(3, api.Vec{4}), 3)
	told(t, "Rest", rest, err, api.Vec{1}, nil)
	if err := Check(s, pods(3, api.Vec{4})); err != nil {
		t.Error(err)
	}
	faulty(t, "Check", Check(s, pods(3, api.Vec{6})), 0, api.ErrRoom)
}

// Whatever budgets, loads, zones and the snapshot's own pods are, room is of
// the nodes and the state's pods alone.
func TestWhatIsNothingToRoom(t *testing.T) { // P6.1, P1
	s := yard()
	s.Loads = nil
	for i := range s.Nodes {
		s.Nodes[i].Zone = -1
	}
	for i := range s.Pods {
		s.Pods[i].Req = api.Vec{top, top, top, top}
	}
	state := state.First(yard())
	state.Preempts, state.Shifts = -1, math.MaxInt
	if err := Check(s, state); err != nil {
		t.Error(err)
	}
	rest, err := Rest(s, state, 1)
	told(t, "Rest", rest, err, api.Vec{13, 26, 24, 41}, nil)
}

func TestWhatIsHandedInStays(t *testing.T) { // R2, R4
	bad := state.First(yard())
	bad.Pods[4].Req[2] = 99
	over := state.First(yard())
	over.Pods[4].Req[0] = top
	for _, given := range []api.State{state.First(yard()), bad, over} {
		s, state := yard(), given
		state.Pods = slices.Clone(given.Pods)
		for _, node := range []int{0, 1, 2, 4, 8} {
			Use(state, node)
			Rest(s, state, node)
		}
		first, second := Check(s, state), Check(s, state)
		if !reflect.DeepEqual(s, yard()) || !reflect.DeepEqual(state, given) {
			t.Errorf("of %v came %v, %v", given, s, state)
		}
		if !reflect.DeepEqual(first, second) {
			t.Errorf("%v, and then %v", first, second)
		}
	}
}

// What is told is new memory: a Spot that is changed changes no other one.
func TestEachSpotIsNew(t *testing.T) { // R2
	s, state := one(api.Vec{}, api.Vec{1}), api.State{}
	var spot *api.Spot
	if err := Check(s, state); !errors.As(err, &spot) {
		t.Fatal(err)
	}
	spot.At, spot.Err = 77, api.ErrGoal
	faulty(t, "once more", Check(s, state), 0, api.ErrRoom)
}

// What lies behind a list's end, within its memory, is neither counted nor
// changed.
func TestWhatLiesBehindAList(t *testing.T) { // P6.1, R2
	s := api.Snapshot{Nodes: []api.Node{{Id: 3, Cap: api.Vec{4}}, {Id: 5, Held: api.Vec{1}}}[:1]}
	state := pods(3, api.Vec{4}, api.Vec{1})
	state.Pods = state.Pods[:1]
	use, err := Use(state, 3)
	told(t, "Use", use, err, api.Vec{4}, nil)
	restAndCheck(t, "behind the end", s, state, api.Vec{}, 0)
	rest, err := Rest(s, state, 5)
	told(t, "Rest of the node behind", rest, err, api.Vec{}, api.ErrNone)
	if p := state.Pods[:2][1]; p != (api.Pod{Id: 2, Load: 7, Req: api.Vec{1}, Node: 3}) {
		t.Errorf("the pod behind became %v", p)
	}
}
