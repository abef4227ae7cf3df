package victim

import (
	"math"
	"reflect"
	"slices"
	"testing"

	"dunnage/api"
	"dunnage/cluster"
	"dunnage/prior"
	"dunnage/room"
	"dunnage/state"
)

const top = math.MaxUint64

// yard is a snapshot that may be. Node 2 has 10 for all four things, and pods
// 11 to 15 use 3 4 0 0, 1 0 0 2, 2 2 2 2, 4 4 4 4 and 0 0 3 0 of them, so 0 0 1 2
// is left; node 5 is empty, and has 6 6 6 6; node 8 has 9 and pod 16, which
// leaves 1 1 1 1; pods 17 to 19 are nowhere.
func yard() api.Snapshot {
	return api.Snapshot{
		Nodes: []api.Node{
			{Id: 2, Zone: 1, Cap: api.Vec{12, 11, 11, 13}, Held: api.Vec{2, 1, 1, 3}},
			{Id: 5, Zone: 1, Cap: api.Vec{6, 6, 6, 6}},
			{Id: 8, Zone: 2, Cap: api.Vec{9, 9, 9, 9}},
		},
		Loads: []api.Load{{Id: 7, Max: 100}},
		Pods: []api.Pod{
			{Id: 11, Load: 7, Prio: 3, Req: api.Vec{3, 4, 0, 0}, Node: 2},
			{Id: 12, Load: 7, Prio: 1, Req: api.Vec{1, 0, 0, 2}, Node: 2},
			{Id: 13, Load: 7, Prio: 2, Req: api.Vec{2, 2, 2, 2}, Node: 2},
			{Id: 14, Load: 7, Prio: 6, Req: api.Vec{4, 4, 4, 4}, Node: 2},
			{Id: 15, Load: 7, Prio: 1, Req: api.Vec{0, 0, 3, 0}, Node: 2},
			{Id: 16, Load: 7, Prio: 0, Req: api.Vec{8, 8, 8, 8}, Node: 8},
			{Id: 17, Load: 7, Prio: 5, Req: api.Vec{2, 0, 0, 0}},
			{Id: 18, Load: 7, Prio: 0, Req: api.Vec{1, 0, 0, 0}},
			{Id: 19, Load: 7, Prio: 9, Req: api.Vec{9, 9, 9, 9}},
		},
	}
}

// wants are what pods 17 and 18 are to be.
func wants() api.Spec {
	return api.Spec{
		Preempts: 3,
		Shifts:   4,
		Wants: []api.Want{
			{Pod: 17, Req: api.Vec{3, 3, 0, 0}, Stay: true},
			{Pod: 18},
		},
	}
}

func first() api.State { return state.First(yard()) }

// one is a node 1 with so much, and pods of Ids 1, 2 and so on there, of Prios
// 1, 2 and so on, each of which has so much; and then one of Id 100 and Prio
// 100, nowhere.
func one(capacity uint64, each ...uint64) (api.Snapshot, api.State) {
	var t api.State
	for i, req := range each {
		t.Pods = append(t.Pods, api.Pod{Id: 1 + i, Prio: 1 + i, Req: api.Vec{0, req}, Node: 1})
	}
	t.Pods = append(t.Pods, api.Pod{Id: 100, Prio: 100})
	return api.Snapshot{Nodes: []api.Node{{Id: 1, Cap: api.Vec{0, capacity}}}}, t
}

// asks is a spec that has pod 100 ask for so much.
func asks(req uint64) api.Spec {
	return api.Spec{Wants: []api.Want{{Pod: 100, Req: api.Vec{0, req}, Stay: true}}}
}

// makes holds Makes against what is due.
func makes(t *testing.T, name string, s api.Snapshot, x api.Spec, p api.State, pod, node int, due bool, l ...int) {
	t.Helper()
	for range 2 {
		if Makes(s, x, p, pod, node, l) != due {
			t.Errorf("%s: Makes for %d at %d of %v: %v", name, pod, node, l, !due)
		}
	}
}

// chosen holds Choose against those that are due, who make room then; none may
// be told as nil or as an empty list.
func chosen(t *testing.T, name string, s api.Snapshot, x api.Spec, p api.State, pod, node int, due ...int) {
	t.Helper()
	for range 2 {
		l, err := Choose(s, x, p, pod, node)
		if err != nil || !slices.Equal(l, due) {
			t.Errorf("%s: Choose for %d at %d: %v, %v, want %v", name, pod, node, l, err, due)
		}
	}
	makes(t, name, s, x, p, pod, node, true, due...)
	for i := range due {
		makes(t, name+", one less", s, x, p, pod, node, false, slices.Concat(due[:i], due[i+1:])...)
	}
}

// notChosen holds Choose against an error that is due, which is told itself.
func notChosen(t *testing.T, name string, s api.Snapshot, x api.Spec, p api.State, pod, node int, due error) {
	t.Helper()
	for range 2 {
		if l, err := Choose(s, x, p, pod, node); len(l) != 0 || err != due {
			t.Errorf("%s: Choose for %d at %d: %v, %v (%T), want %v", name, pod, node, l, err, err, due)
		}
	}
	makes(t, name, s, x, p, pod, node, false)
	makes(t, name, s, x, p, pod, node, false, prior.Victims(p, pod, node)...)
}

// where holds Where against the node, and who is chosen there, that are due.
func where(t *testing.T, name string, s api.Snapshot, x api.Spec, p api.State, pod, node int, due ...int) {
	t.Helper()
	for range 2 {
		at, l, ok := Where(s, x, p, pod)
		if at != node || !slices.Equal(l, due) || !ok {
			t.Errorf("%s: Where of %d: %d, %v, %v, want %d, %v", name, pod, at, l, ok, node, due)
		}
	}
}

// noWhere holds that there is no node at which some are chosen.
func noWhere(t *testing.T, name string, s api.Snapshot, x api.Spec, p api.State, pod int) {
	t.Helper()
	for range 2 {
		if at, l, ok := Where(s, x, p, pod); at != 0 || len(l) != 0 || ok {
			t.Errorf("%s: Where of %d: %d, %v, %v", name, pod, at, l, ok)
		}
	}
}

func TestTheSampleIsAsTold(t *testing.T) {
	s := yard()
	if err := cluster.Fair(s, wants()); err != nil {
		t.Fatal(err)
	}
	for id, due := range map[int]api.Vec{2: {0, 0, 1, 2}, 5: {6, 6, 6, 6}, 8: {1, 1, 1, 1}} {
		if rest, err := room.Rest(s, first(), id); err != nil || rest != due {
			t.Errorf("the rest of node %d: %v, %v", id, rest, err)
		}
	}
}

// The document's example: where there is room enough none is chosen.
func TestTheExample(t *testing.T) { // P15.1
	for capacity := uint64(7); capacity < 12; capacity++ {
		s, p := one(capacity, 1, 2)
		chosen(t, "room enough", s, asks(4), p, 100, 1)
		where(t, "room enough", s, asks(4), p, 100, 1)
	}
	s, p := one(6, 1, 2)
	chosen(t, "one less than enough", s, asks(4), p, 100, 1, 1)
}

func TestMakes(t *testing.T) { // P15.1
	for _, c := range []struct {
		name      string
		pod, node int
		due       bool
		l         []int
	}{
		{"none, where there is room", 17, 5, true, nil},
		{"none, where there is none", 17, 2, false, nil},
		{"one that makes room", 17, 2, true, []int{11}},
		{"one that makes more room", 17, 2, true, []int{14}},
		{"one that makes too little room", 17, 2, false, []int{13}},
		{"one that makes room for some of it", 17, 2, false, []int{12}},
		{"two that make too little room", 17, 2, false, []int{12, 15}},
		{"two that make room for another thing alone", 17, 2, false, []int{13, 15}},
		{"all but those that make room", 17, 2, false, []int{12, 13, 15}},
		{"one that makes room, and others", 17, 2, true, []int{13, 11, 12}},
		{"all", 17, 2, true, []int{11, 12, 13, 14, 15}},
		{"all, in another order", 17, 2, true, []int{15, 12, 14, 11, 13}},
		{"told twice, and too little", 17, 2, false, []int{13, 13}},
		{"told often, and too little", 17, 2, false, []int{12, 13, 12, 13, 12}},
		{"told twice, and enough", 17, 2, true, []int{11, 11}},
		{"Ids that no pod has", 17, 2, false, []int{20, 0, -11, math.MaxInt, math.MinInt}},
		{"Ids that no pod has, and enough", 17, 2, true, []int{20, 0, 11, -11, math.MaxInt, math.MinInt}},
		{"one at another node", 17, 2, false, []int{16}},
		{"some at another node, and too little", 17, 2, false, []int{16, 13}},
		{"some that are nowhere", 17, 2, false, []int{18, 19}},
		{"the pod itself, which is nowhere", 17, 2, false, []int{17}},
		{"the pod itself, and enough", 17, 2, true, []int{17, 11}},
		{"one of more Prio", 17, 2, true, []int{14}},
		{"one of more Prio, for one of Prio 0", 18, 2, true, []int{14}},
		{"a node with some room", 18, 8, true, nil},
		{"a node with too little", 17, 8, false, nil},
		{"the only one there", 17, 8, true, []int{16}},
		{"the only one there, and just so much", 19, 8, true, []int{16}},
		{"all, for one that asks for more", 19, 2, true, []int{11, 12, 13, 14, 15}},
		{"all but one, for one that asks for more", 19, 2, false, []int{11, 12, 13, 14}},
		{"a node that is too small", 19, 5, false, []int{11, 12, 13, 14, 15, 16, 17, 18, 19}},
		{"the pod isn't there", 20, 5, false, nil},
		{"the pod isn't there", 20, 2, false, []int{11, 12, 13, 14, 15}},
		{"the pod is 0", 0, 5, false, []int{0}},
		{"the node isn't there", 17, 3, false, nil},
		{"the node isn't there", 17, 3, false, []int{11, 17}},
		{"the node is 0", 17, 0, false, nil},
		{"the node is 0, and some are nowhere", 17, 0, false, []int{17, 18, 19}},
		{"neither is there", 0, 0, false, []int{11}},
		{"neither is there", -1, math.MinInt, false, nil},
		{"a pod's Id as a node, and the other way", 5, 17, false, nil},
	} {
		t.Run(c.name, func(t *testing.T) {
			s, p := yard(), first()
			makes(t, "as it is", s, wants(), p, c.pod, c.node, c.due, c.l...)
			slices.Reverse(s.Nodes)
			slices.Reverse(p.Pods)
			slices.Reverse(c.l)
			s.Loads, s.Pods = nil, nil
			p.Preempts, p.Shifts = math.MinInt, math.MaxInt
			makes(t, "turned", s, wants(), p, c.pod, c.node, c.due, c.l...)
		})
	}
}

// Each of the four numbers counts.
func TestMakesOfEachNumber(t *testing.T) { // P15.1
	for i := range 4 {
		var capacity, held, req api.Vec
		for k := range 4 {
			capacity[k], held[k], req[k] = 9, 1, 2
		}
		s := api.Snapshot{Nodes: []api.Node{{Id: 1, Cap: capacity, Held: held}}}
		p := api.State{Pods: []api.Pod{{Id: 1, Req: req, Node: 1}, {Id: 2, Req: req, Node: 1}, {Id: 3, Req: api.Vec{4, 4, 4, 4}}}}
		makes(t, "just enough", s, api.Spec{}, p, 3, 1, true)
		for _, at := range []*uint64{&p.Pods[2].Req[i], &p.Pods[1].Req[i], &s.Nodes[0].Held[i]} {
			*at++
			makes(t, "one more", s, api.Spec{}, p, 3, 1, false)
			makes(t, "one more, and one less", s, api.Spec{}, p, 3, 1, true, 1)
			*at--
		}
		s.Nodes[0].Cap[i]--
		makes(t, "one less", s, api.Spec{}, p, 3, 1, false)
		makes(t, "one less, and two less", s, api.Spec{}, p, 3, 1, true, 2)
	}
}

// A pod that is at the node already uses what it has there, unless it is one
// of those that make way itself.
func TestMakesForOneThatIsThere(t *testing.T) { // P15.1
	s, p := one(9, 4, 3)
	x := asks(4)
	x.Wants[0].Pod = 2
	makes(t, "it stays", s, x, p, 2, 1, false)
	makes(t, "it goes itself", s, x, p, 2, 1, true, 2)
	makes(t, "another one goes", s, x, p, 2, 1, true, 1)
	makes(t, "its own Req", s, api.Spec{}, p, 2, 1, false)
	x.Wants[0].Req = api.Vec{0, 9}
	makes(t, "another one goes, and that is too little", s, x, p, 2, 1, false, 1)
	makes(t, "both go", s, x, p, 2, 1, true, 1, 2)
}

// An Id stands for all pods of it at the node, and for none of those that are
// elsewhere; where the Id of the pod itself stands twice the first one is it.
func TestMakesOfSeveralOfOneId(t *testing.T) { // P15.1
	s, p := one(10, 3, 3, 2, 2)
	for i := range p.Pods[:4] {
		p.Pods[i].Id = []int{6, 7, 6, 7}[i]
	}
	makes(t, "none", s, asks(1), p, 100, 1, false)
	makes(t, "both of one Id", s, asks(5), p, 100, 1, true, 6)
	makes(t, "both of the other Id", s, asks(5), p, 100, 1, true, 7)
	makes(t, "one more", s, asks(6), p, 100, 1, false, 6)
	makes(t, "both of an Id that is told twice", s, asks(6), p, 100, 1, false, 7, 7)
	makes(t, "all of both", s, asks(10), p, 100, 1, true, 7, 6)
	p.Pods[0].Node = 2
	makes(t, "the first one at another node", s, asks(5), p, 100, 1, true, 6)
	makes(t, "the first one at another node", s, asks(6), p, 100, 1, false, 6)
	p.Pods[0].Node, p.Pods[2].Node = 1, 0
	makes(t, "the second one nowhere", s, asks(5), p, 100, 1, true, 6)
	makes(t, "the second one nowhere", s, asks(6), p, 100, 1, false, 6)
	p.Pods[1].Id, p.Pods[1].Req, p.Pods[4].Req = 100, api.Vec{0, 5}, api.Vec{0, 9}
	makes(t, "the pod's own Id, twice: the first one's Req", s, api.Spec{}, p, 100, 1, true, 100)
	p.Pods[1].Req[1]++
	makes(t, "the pod's own Id, twice: one more", s, api.Spec{}, p, 100, 1, false, 100)
	makes(t, "the pod's own Id, twice: with others", s, api.Spec{}, p, 100, 1, true, 100, 6)
}

// A node that has no rest even without them: its use goes over, or it has no
// room for what is held, or for what is used. Little as is asked for, it
// doesn't fit.
func TestNoRestEvenWithoutThem(t *testing.T) { // P15.1
	s, p := one(top, top, 1, 5)
	x := asks(0)
	makes(t, "the use goes over", s, x, p, 100, 1, false)
	makes(t, "the use goes over still", s, x, p, 100, 1, false, 2)
	makes(t, "the use just fits", s, x, p, 100, 1, true, 2, 3)
	makes(t, "much less", s, x, p, 100, 1, true, 1)
	chosen(t, "the use goes over", s, x, p, 100, 1, 1)
	p.Pods[0].Prio = 200
	chosen(t, "the use goes over, and the greatest one may not go", s, x, p, 100, 1, 2, 3)
	p.Pods[2].Prio = 200
	notChosen(t, "the use goes over, without all that may go", s, x, p, 100, 1, api.ErrRoom)
	noWhere(t, "the use goes over, without all that may go", s, x, p, 100)

	s, p = one(5, 3, 2)
	s.Nodes[0].Held = api.Vec{0, 0, 1}
	makes(t, "no room for what is held", s, x, p, 100, 1, false, 1, 2)
	notChosen(t, "no room for what is held", s, x, p, 100, 1, api.ErrRoom)
	s.Nodes[0].Cap[2] = 1
	makes(t, "just room for what is held", s, x, p, 100, 1, true)
	chosen(t, "just room for what is held", s, x, p, 100, 1)

	s, p = one(5, 6, 2)
	makes(t, "no room for what is used", s, x, p, 100, 1, false, 2)
	makes(t, "room for what is used", s, x, p, 100, 1, true, 1)
	chosen(t, "no room for what is used", s, x, p, 100, 1, 1)
	p.Pods[0].Prio = 100
	notChosen(t, "no room for what is used", s, x, p, 100, 1, api.ErrRoom)
}

// What is asked for, and what is used, may be more together than an amount
// holds, and so may all Reqs of those that go.
func TestGreatAmounts(t *testing.T) { // P15.1, P1
	s, p := one(top, 2, top, 1, top-1)
	makes(t, "all", s, asks(top), p, 100, 1, true, 1, 2, 3, 4)
	makes(t, "all but 1", s, asks(top-1), p, 100, 1, true, 1, 2, 4)
	makes(t, "all but 1", s, asks(top), p, 100, 1, false, 1, 2, 4)
	chosen(t, "all", s, asks(top), p, 100, 1, 1, 2, 3, 4)
	chosen(t, "some", s, asks(top-1), p, 100, 1, 1, 2, 4)
	chosen(t, "fewer", s, asks(top-3), p, 100, 1, 2, 4)
	chosen(t, "the first ones", s, asks(0), p, 100, 1, 1, 2)
	p.Pods[1].Req[1] = 0
	chosen(t, "the great one", s, asks(4), p, 100, 1, 4)
	p.Pods[3].Req[1] = top - 4
	chosen(t, "none", s, asks(1), p, 100, 1)
}

// A pod asks for its first want's Req, if that has Stay, else for its own.
func TestRequests(t *testing.T) { // P15.1
	stay := func(pod int, req uint64) api.Want { return api.Want{Pod: pod, Req: api.Vec{0, req}, Stay: true} }
	leave := func(pod int, req uint64) api.Want { return api.Want{Pod: pod, Req: api.Vec{0, req}} }
	for _, c := range []struct {
		name  string
		wants []api.Want
		due   uint64
	}{
		{"no wants", nil, 5},
		{"no want", []api.Want{stay(99, 3), stay(1, 2)}, 5},
		{"a want with Stay: less", []api.Want{stay(100, 3)}, 3},
		{"a want with Stay: more", []api.Want{stay(100, 8)}, 8},
		{"a want with Stay: nothing", []api.Want{stay(100, 0)}, 0},
		{"a want without Stay", []api.Want{leave(100, 0)}, 5},
		{"a want without Stay, that may not be", []api.Want{leave(100, 8)}, 5},
		{"behind other ones", []api.Want{stay(1, 9), leave(2, 0), stay(100, 4)}, 4},
		{"two with Stay", []api.Want{stay(100, 4), stay(100, 7)}, 4},
		{"two, the first one with Stay", []api.Want{stay(100, 4), leave(100, 0)}, 4},
		{"two, the second one with Stay", []api.Want{leave(100, 0), stay(100, 4)}, 5},
	} {
		t.Run(c.name, func(t *testing.T) {
			x := api.Spec{Wants: c.wants}
			for _, other := range []uint64{1, 2, 3} {
				s, p := one(c.due+2, other)
				p.Pods[1].Req = api.Vec{0, 5}
				if other < 3 {
					chosen(t, "enough", s, x, p, 100, 1)
					continue
				}
				makes(t, "too little", s, x, p, 100, 1, false)
				chosen(t, "too little", s, x, p, 100, 1, 1)
				s.Nodes[0].Cap[1] -= 2
				chosen(t, "just so much, without all", s, x, p, 100, 1, 1)
				if c.due > 0 {
					s.Nodes[0].Cap[1]--
					notChosen(t, "one less", s, x, p, 100, 1, api.ErrRoom)
				}
			}
		})
	}
}

// The wants of those that make way count for nothing, and their Reqs are as in
// the state.
func TestWantsOfOthers(t *testing.T) { // P15.1
	s, p := one(10, 4, 3, 3)
	x := asks(6)
	x.Wants = append(x.Wants, api.Want{Pod: 1, Req: api.Vec{0, 9}, Stay: true}, api.Want{Pod: 2}, api.Want{Pod: 3, Stay: true})
	chosen(t, "wants of others", s, x, p, 100, 1, 1, 2)
	s.Pods = []api.Pod{{Id: 1, Prio: 100, Req: api.Vec{0, 1}}, {Id: 100, Req: api.Vec{0, 2}, Node: 1}}
	chosen(t, "a snapshot whose pods are other ones", s, x, p, 100, 1, 1, 2)
}

func TestChoose(t *testing.T) { // P15.1
	for _, c := range []struct {
		name      string
		pod, node int
		due       []int
		err       error
	}{
		{"an empty node", 17, 5, nil, nil},
		{"a node with room", 18, 8, nil, nil},
		{"from the first one on, and the last one is enough", 17, 2, []int{11}, nil},
		{"the only one there", 17, 8, []int{16}, nil},
		{"all", 19, 2, []int{12, 15, 13, 11, 14}, nil},
		{"the only one, for one that asks for more", 19, 8, []int{16}, nil},
		{"no victims, and no room", 18, 2, nil, api.ErrRoom},
		{"an empty node that is too small", 19, 5, nil, api.ErrRoom},
		{"for one that is there: it would be there twice", 14, 2, []int{12, 15, 11}, nil},
		{"for one that is elsewhere", 16, 5, nil, api.ErrRoom},
		{"for one that is elsewhere", 14, 5, nil, nil},
		{"for one that is elsewhere", 14, 8, []int{16}, nil},
		{"for one that is elsewhere, of Prio 0", 16, 2, nil, api.ErrRoom},
		{"the pod isn't there", 20, 5, nil, api.ErrNone},
		{"the pod isn't there, and there is no room", 20, 2, nil, api.ErrNone},
		{"the pod is 0", 0, 5, nil, api.ErrNone},
		{"the node isn't there", 17, 3, nil, api.ErrNone},
		{"the node isn't there, and all would be too little", 19, 3, nil, api.ErrNone},
		{"the node is 0", 17, 0, nil, api.ErrNone},
		{"neither is there", 20, 3, nil, api.ErrNone},
		{"neither is there", math.MinInt, math.MaxInt, nil, api.ErrNone},
		{"a pod's Id as a node, and the other way", 5, 17, nil, api.ErrNone},
	} {
		t.Run(c.name, func(t *testing.T) {
			s, p := yard(), first()
			for _, name := range []string{"as it is", "turned"} {
				if c.err != nil {
					notChosen(t, name, s, wants(), p, c.pod, c.node, c.err)
				} else {
					chosen(t, name, s, wants(), p, c.pod, c.node, c.due...)
				}
				slices.Reverse(s.Nodes)
				slices.Reverse(p.Pods)
				s.Loads, s.Pods = nil, nil
				p.Preempts, p.Shifts = math.MinInt, math.MaxInt
			}
		})
	}
}

// As many as it takes, from the first one on; then, from the last one on, each
// is left out, if the others make room.
func TestChooseLeavesOut(t *testing.T) { // P15.1
	for _, c := range []struct {
		name string
		each []uint64
		req  uint64
		due  []int
	}{
		{"none", []uint64{4, 3, 3}, 0, nil},
		{"the first one", []uint64{4, 3, 3}, 4, []int{1}},
		{"the first one, and it is more than enough", []uint64{4, 3, 3}, 1, []int{1}},
		{"two", []uint64{4, 3, 3}, 5, []int{1, 2}},
		{"two, just enough", []uint64{4, 3, 3}, 7, []int{1, 2}},
		{"all", []uint64{4, 3, 3}, 8, []int{1, 2, 3}},
		{"all, just enough", []uint64{4, 3, 3}, 10, []int{1, 2, 3}},
		{"the last one is enough", []uint64{1, 2, 7}, 7, []int{3}},
		{"the last one is enough: the others go in vain", []uint64{1, 2, 7}, 4, []int{3}},
		{"the one between is left out", []uint64{3, 2, 5}, 8, []int{1, 3}},
		{"the one between is left out, though the first one would do", []uint64{2, 2, 6}, 8, []int{1, 3}},
		{"the first one is left out", []uint64{2, 3, 5}, 8, []int{2, 3}},
		{"some that use nothing", []uint64{0, 0, 5, 0, 5}, 5, []int{3}},
		{"those that use nothing are left out", []uint64{0, 5, 0, 0, 5}, 10, []int{2, 5}},
		{"from the last one on: not the fewest", []uint64{2, 2, 3, 3}, 7, []int{1, 2, 3}},
		{"from the last one on: not those that use least", []uint64{4, 3, 1, 2}, 9, []int{1, 2, 4}},
		{"several are left out", []uint64{1, 2, 1, 2, 4}, 7, []int{1, 2, 5}},
		{"those behind are not asked", []uint64{3, 3, 4}, 6, []int{1, 2}},
		{"those behind are not asked, though one alone would do", []uint64{1, 2, 7}, 3, []int{1, 2}},
	} {
		t.Run(c.name, func(t *testing.T) {
			all := uint64(0)
			for _, req := range c.each {
				all += req
			}
			s, p := one(all, c.each...)
			chosen(t, "as it is", s, asks(c.req), p, 100, 1, c.due...)
			slices.Reverse(p.Pods)
			chosen(t, "turned", s, asks(c.req), p, 100, 1, c.due...)
			s.Nodes[0].Cap[1]++
			chosen(t, "with one more, and asked for one more", s, asks(c.req+1), p, 100, 1, c.due...)
		})
	}
}

// The victims' order is by rising Prio, of one Prio by rising Id; those that
// may not go aren't asked, be they at the node or not.
func TestChooseInTheVictimsOrder(t *testing.T) { // P15.1
	s, p := one(12, 3, 3, 3, 3)
	for i, prio := range []int{5, 2, 5, 2} {
		p.Pods[i].Id, p.Pods[i].Prio = 4-i, prio
	}
	chosen(t, "one", s, asks(3), p, 100, 1, 1)
	chosen(t, "two", s, asks(5), p, 100, 1, 1, 3)
	chosen(t, "three", s, asks(9), p, 100, 1, 1, 3, 2)
	chosen(t, "four", s, asks(12), p, 100, 1, 1, 3, 2, 4)
	notChosen(t, "more than all", s, asks(13), p, 100, 1, api.ErrRoom)
	p.Pods[4].Prio = 5
	chosen(t, "two, of those that may go", s, asks(6), p, 100, 1, 1, 3)
	notChosen(t, "more than two, of those that may go", s, asks(7), p, 100, 1, api.ErrRoom)
	p.Pods[4].Prio = 2
	notChosen(t, "none may go", s, asks(1), p, 100, 1, api.ErrRoom)
	chosen(t, "none need go", s, asks(0), p, 100, 1)
}

// Where Ids are there twice each Id is told once, at the first place that it
// has among the victims, and all pods of it at the node go with it.
func TestChooseOfSeveralOfOneId(t *testing.T) { // P15.1, P1
	s, p := one(12, 1, 2, 4, 5)
	for i, id := range []int{6, 7, 6, 8} {
		p.Pods[i].Id = id
	}
	chosen(t, "one goes, and another one of its Id", s, asks(5), p, 100, 1, 6)
	chosen(t, "two Ids", s, asks(6), p, 100, 1, 6, 7)
	chosen(t, "one of the two is left out", s, asks(10), p, 100, 1, 6, 8)
	chosen(t, "three Ids", s, asks(12), p, 100, 1, 6, 7, 8)
	p.Pods[4].Prio = 2
	chosen(t, "one that may go, and another one of its Id that may not", s, asks(5), p, 100, 1, 6)
	p.Pods[4].Prio = 1
	notChosen(t, "none may go", s, asks(5), p, 100, 1, api.ErrRoom)
	p.Pods[4].Prio, p.Pods[2].Node = 100, 3
	chosen(t, "one goes, and not the one of its Id elsewhere", s, asks(5), p, 100, 1, 6)
	chosen(t, "one goes, and not the one of its Id elsewhere", s, asks(7), p, 100, 1, 6, 7)
}

func TestWhere(t *testing.T) { // P15.2
	s, p, x := yard(), first(), wants()
	where(t, "a node with room", s, x, p, 17, 5)
	where(t, "two nodes with room: the first one", s, x, p, 18, 5)
	where(t, "the fewest", s, x, p, 19, 8, 16)
	where(t, "for one that is somewhere", s, x, p, 14, 5)
	noWhere(t, "all tell an error", s, x, p, 16)
	noWhere(t, "the pod isn't there", s, x, p, 20)
	noWhere(t, "the pod is 0", s, x, p, 0)
	s.Nodes = s.Nodes[:2]
	where(t, "one node tells no error", s, x, p, 19, 2, 12, 15, 13, 11, 14)
	where(t, "a node with room, and one without", s, x, p, 17, 5)
	s.Nodes = s.Nodes[1:]
	noWhere(t, "all tell an error", s, x, p, 19)
	for _, none := range []api.Snapshot{{}, {Nodes: []api.Node{}, Pods: s.Pods}} {
		noWhere(t, "no nodes", none, x, p, 17)
		noWhere(t, "no nodes, no pods", none, x, api.State{}, 17)
		notChosen(t, "no nodes", none, x, p, 17, 2, api.ErrNone)
	}
	noWhere(t, "no pods", s, x, api.State{}, 17)
	noWhere(t, "no pods", s, x, api.State{Pods: []api.Pod{}}, 0)
	notChosen(t, "no pods", s, x, api.State{}, 17, 5, api.ErrNone)
	makes(t, "no pods", s, x, api.State{}, 17, 5, false)
}

// The nodes' order tells, not that of their Ids, nor how much room there is.
func TestWhereOfSeveral(t *testing.T) { // P15.2
	for _, c := range []struct {
		name string
		each [][]uint64 // of each node, what its pods have; their room is full
		node int
		due  []int
	}{
		{"as many: the first one", [][]uint64{{1, 2}, {2, 1}, {1, 2}}, 1, []int{11, 12}},
		{"the fewest is the first one", [][]uint64{{3}, {2, 1}, {3}}, 1, []int{11}},
		{"the fewest is between", [][]uint64{{2, 1}, {3}, {4}}, 2, []int{21}},
		{"the fewest is the last one", [][]uint64{{1, 1, 1}, {2, 1}, {9}}, 3, []int{31}},
		{"fewer, and fewer again", [][]uint64{{1, 1, 1}, {2, 1}, {1, 2}}, 2, []int{21, 22}},
		{"the fewest that are chosen, not the fewest that it takes", [][]uint64{{2, 2}, {1, 1, 3}}, 2, []int{23}},
		{"an error first", [][]uint64{{2}, {1, 2}, {2, 1}}, 2, []int{21, 22}},
		{"errors about it", [][]uint64{{2}, {1, 1, 1}, {}}, 2, []int{21, 22, 23}},
		{"an error last", [][]uint64{{1, 2}, {1, 1}}, 1, []int{11, 12}},
	} {
		t.Run(c.name, func(t *testing.T) {
			var s api.Snapshot
			p := api.State{Pods: []api.Pod{{Id: 100, Prio: 100}}}
			for i, each := range c.each {
				n := api.Node{Id: 1 + i}
				for k, req := range each {
					n.Cap[1] += req
					p.Pods = append(p.Pods, api.Pod{Id: 10*n.Id + 1 + k, Prio: k, Req: api.Vec{0, req}, Node: n.Id})
				}
				s.Nodes = append(s.Nodes, n)
			}
			where(t, "as it is", s, asks(3), p, 100, c.node, c.due...)
			// With falling Ids of the nodes the places stay.
			for i := range s.Nodes {
				s.Nodes[i].Id = 9 - s.Nodes[i].Id
			}
			for i := range p.Pods[1:] {
				p.Pods[1+i].Node = 9 - p.Pods[1+i].Node
			}
			where(t, "with other Ids", s, asks(3), p, 100, 9-c.node, c.due...)
			s.Nodes = append(s.Nodes, api.Node{Id: 50, Cap: api.Vec{0, 3}})
			where(t, "with one at which none is", s, asks(3), p, 100, 50)
			s.Nodes = append(s.Nodes, api.Node{Id: 51, Cap: api.Vec{0, 4}})
			where(t, "with two at which none is", s, asks(3), p, 100, 50)
		})
	}
}

// A node of Id 0 is one of the nodes of a snapshot that may not be. Those that
// are nowhere are its use, yet at no node: none of them makes way.
func TestNodesOfId0(t *testing.T) { // P15.1, P15.2, P1
	s := api.Snapshot{Nodes: []api.Node{{Id: 0, Cap: api.Vec{6}}}}
	p := api.State{Pods: []api.Pod{{Id: 1, Prio: 0, Req: api.Vec{3}}, {Id: 2, Prio: 5, Req: api.Vec{2}}}}
	makes(t, "no room", s, api.Spec{}, p, 2, 0, false)
	makes(t, "those that are nowhere", s, api.Spec{}, p, 2, 0, false, 1, 2)
	notChosen(t, "no victims", s, api.Spec{}, p, 2, 0, api.ErrRoom)
	noWhere(t, "no victims", s, api.Spec{}, p, 2)
	s.Nodes[0].Cap[0] = 7
	makes(t, "room", s, api.Spec{}, p, 2, 0, true)
	chosen(t, "room", s, api.Spec{}, p, 2, 0)
	where(t, "room", s, api.Spec{}, p, 2, 0)
	s.Nodes = append(s.Nodes, api.Node{Id: 1, Cap: api.Vec{6}})
	where(t, "ahead of another one", s, api.Spec{}, p, 2, 0)
	slices.Reverse(s.Nodes)
	where(t, "behind another one", s, api.Spec{}, p, 2, 1)
}

// Nodes of one Id are the first one of them.
func TestNodesOfOneId(t *testing.T) { // P15.1, P15.2, P1
	s, p := one(4, 2, 2)
	s.Nodes = append(s.Nodes, api.Node{Id: 1, Cap: api.Vec{9, 9, 9, 9}})
	makes(t, "the first one", s, asks(3), p, 100, 1, false, 1)
	chosen(t, "the first one", s, asks(3), p, 100, 1, 1, 2)
	where(t, "the first one", s, asks(3), p, 100, 1, 1, 2)
	notChosen(t, "the first one", s, asks(5), p, 100, 1, api.ErrRoom)
	noWhere(t, "the first one", s, asks(5), p, 100)
}

// Ids below 0, and as great as an int can be, of pods and of nodes; and Prios,
// too.
func TestIdsThatMayNotBe(t *testing.T) { // P15.1, P15.2, P1
	ids := []int{math.MinInt, -1 << 32, -1, 0, 1 << 32, math.MaxInt}
	for _, node := range []int{math.MinInt, -3, 1 << 32, math.MaxInt} {
		s := api.Snapshot{Nodes: []api.Node{{Id: node, Cap: api.Vec{0, 6}}}}
		p := api.State{Pods: []api.Pod{{Id: 7, Prio: math.MaxInt}}}
		for i, id := range ids {
			p.Pods = append(p.Pods, api.Pod{Id: id, Prio: ids[len(ids)-1-i], Req: api.Vec{0, 1}, Node: node})
		}
		x := asks(2)
		x.Wants[0].Pod = 7
		makes(t, "any Ids", s, x, p, 7, node, false, math.MinInt)
		makes(t, "any Ids", s, x, p, 7, node, true, 0, math.MinInt)
		chosen(t, "any Ids", s, x, p, 7, node, math.MaxInt, 1<<32)
		where(t, "any Ids", s, x, p, 7, node, math.MaxInt, 1<<32)
		x.Wants[0].Pod = 0
		chosen(t, "the pod of Id 0, there already", s, x, p, 0, node, math.MaxInt, 1<<32)
		x.Wants[0].Req[1] = 4
		notChosen(t, "the pod of Id 0, there already", s, x, p, 0, node, api.ErrRoom)
		p.Pods[0].Prio = math.MinInt
		x.Wants[0].Pod = 7
		notChosen(t, "the least Prio", s, x, p, 7, node, api.ErrRoom)
	}
}

// Lists far longer than those that may be.
func TestLongLists(t *testing.T) { // P1
	var each []uint64
	var l, due []int
	for i := range 600 {
		each = append(each, uint64(i%2))
		l = append(l, 600-i, 600-i)
		if i%2 == 1 {
			due = append(due, i+1)
		}
	}
	s, p := one(300, each...)
	for i := range 300 {
		s.Nodes = append(s.Nodes, api.Node{Id: 700 + i})
		p.Pods = append(p.Pods, api.Pod{Id: 700 + i, Node: 700 + i})
	}
	makes(t, "all", s, asks(300), p, 100, 1, true, l...)
	makes(t, "more than all", s, asks(301), p, 100, 1, false, l...)
	p.Pods[600].Prio = 1_000
	p.Pods[600].Id = 5_000
	x := asks(300)
	x.Wants[0].Pod = 5_000
	chosen(t, "half", s, x, p, 5_000, 1, due...)
	where(t, "half", s, x, p, 5_000, 1, due...)
}

// What lies behind a list's end, but within its capacity, is none of it, and
// stays as it is.
func TestWhatLiesBehindAList(t *testing.T) { // P15.3, R2
	s, p := one(6, 3, 3)
	behind := api.Pod{Id: 3, Prio: 0, Req: api.Vec{0, 9}, Node: 1}
	p.Pods = append(p.Pods, behind)[:3]
	s.Nodes = append(s.Nodes, api.Node{Id: 4, Cap: api.Vec{0, 99}})[:1]
	x := asks(5)
	x.Wants = append(x.Wants, api.Want{Pod: 100, Stay: true})[:1]
	l := []int{2, 1}
	makes(t, "behind", s, x, p, 100, 1, false, l[:1]...)
	makes(t, "all", s, x, p, 100, 1, true, l...)
	chosen(t, "behind", s, x, p, 100, 1, 1, 2)
	where(t, "behind", s, x, p, 100, 1, 1, 2)
	if p.Pods[:4][3] != behind || s.Nodes[:2][1].Id != 4 || !slices.Equal(l, []int{2, 1}) {
		t.Errorf("behind the lists are %v, %v, %v", p.Pods[:4], s.Nodes[:2], l)
	}
}

// What is handed in stays as it is, and the same call is told the same.
func TestHandedInStays(t *testing.T) { // P15.3, R2, R4
	s, x, p := yard(), wants(), first()
	slices.Reverse(p.Pods)
	given := state.First(api.Snapshot{Pods: p.Pods})
	l := []int{15, 11, 11, 3, 12}
	for _, pod := range []int{14, 16, 17, 18, 19, 20} {
		for _, node := range []int{0, 2, 5, 8, 9} {
			a, err := Choose(s, x, p, pod, node)
			b, again := Choose(s, x, p, pod, node)
			if !slices.Equal(a, b) || err != again || Makes(s, x, p, pod, node, l) != Makes(s, x, p, pod, node, l) {
				t.Errorf("of %d at %d two things are told: %v, %v", pod, node, a, b)
			}
		}
		at, a, ok := Where(s, x, p, pod)
		too, b, still := Where(s, x, p, pod)
		if at != too || !slices.Equal(a, b) || ok != still {
			t.Errorf("of %d two things are told: %d, %v, and %d, %v", pod, at, a, too, b)
		}
	}
	if !reflect.DeepEqual(s, yard()) || !reflect.DeepEqual(x, wants()) || !state.Same(p, given) || !slices.Equal(l, []int{15, 11, 11, 3, 12}) {
		t.Errorf("handed in became %v, %v, %v, %v", s, x, p, l)
	}
}

// A later change of what was handed in changes nothing of what was told, and
// the other way; and no two answers share memory.
func TestWhatIsToldIsNew(t *testing.T) { // P15.3, R2
	s, x, p := yard(), wants(), first()
	l, _ := Choose(s, x, p, 19, 2)
	due := []int{12, 15, 13, 11, 14}
	for i := range p.Pods {
		p.Pods[i] = api.Pod{}
	}
	if !slices.Equal(l, due) {
		t.Errorf("with another state it became %v", l)
	}
	p = first()
	s.Nodes = s.Nodes[:1]
	_, other, _ := Where(s, x, p, 19)
	for i := range l {
		l[i] = -1
	}
	l = append(l, -2, -3)
	if !slices.Equal(other, due) {
		t.Errorf("with another answer it became %v", other)
	}
	if again, _ := Choose(s, x, p, 19, 2); !slices.Equal(again, due) {
		t.Errorf("again: %v, %v", again, l)
	}
	clear(other)
	chosen(t, "again", s, x, p, 19, 2, due...)
	if !state.Same(p, first()) {
		t.Errorf("the state became %v", p)
	}
}
