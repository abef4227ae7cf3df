package cluster

import (
	"errors"
	"math"
	"reflect"
	"slices"
	"testing"

	"dunnage/api"
)

const top = 1<<64 - 1

// small is a snapshot that may be: 3 nodes (places 0 to 2), 2 loads (3, 4),
// 4 pods (5 to 8). Ids of nodes, loads and pods are partly the same.
func small() api.Snapshot {
	return api.Snapshot{
		Nodes: []api.Node{
			{Id: 1, Zone: 3, Cap: api.Vec{9, 8, 7, 6}, Held: api.Vec{1, 0, 7, 2}},
			{Id: 4, Zone: 1, Cap: api.Vec{5, 5, 5, 5}},
			{Id: 9, Zone: 3},
		},
		Loads: []api.Load{
			{Id: 1, Apart: true, Skew: 1, Min: 1, Max: 3},
			{Id: 7, Min: 0, Max: 2},
		},
		Pods: []api.Pod{
			{Id: 2, Load: 1, Prio: 5, Req: api.Vec{1, 1, 1, 1}, Node: 4},
			{Id: 3, Load: 7, Req: api.Vec{top, 0, 0, 0}},
			{Id: 5, Load: 7, Prio: 100, Node: 9},
			{Id: 6, Load: 1, Prio: 1, Node: 1},
		},
	}
}

// wish is a spec that may be with small.
func wish() api.Spec {
	return api.Spec{
		Wants: []api.Want{
			{Pod: 2, Req: api.Vec{2, 2, 2, 2}, Stay: true},
			{Pod: 3},
			{Pod: 6, Stay: true},
		},
		Preempts: 2,
		Shifts:   3,
	}
}

// full is a snapshot that may be with as many of each as there may be, their
// numbers at the greatest that may be.
func full() api.Snapshot {
	var s api.Snapshot
	for i := range api.MaxNodes {
		cap := api.Vec{top, top, top, top}
		s.Nodes = append(s.Nodes, api.Node{Id: api.MaxId - 7 + i, Zone: api.MaxZone - i, Cap: cap, Held: cap})
	}
	for i := range api.MaxLoads {
		s.Loads = append(s.Loads, api.Load{Id: api.MaxId - 7 + i, Apart: i%2 == 0, Skew: 100, Min: 100, Max: 100})
	}
	for i := range api.MaxPods {
		s.Pods = append(s.Pods, api.Pod{
			Id: api.MaxId - 11 + i, Load: api.MaxId - i%8, Prio: 100,
			Req: api.Vec{top, top, top, top}, Node: api.MaxId - i%8,
		})
	}
	return s
}

// least is the least snapshot that may be.
func least() api.Snapshot { return api.Snapshot{Nodes: []api.Node{{Id: 1, Zone: 1}}} }

func cloneSnapshot(s api.Snapshot) api.Snapshot {
	return api.Snapshot{Nodes: slices.Clone(s.Nodes), Loads: slices.Clone(s.Loads), Pods: slices.Clone(s.Pods)}
}

func cloneSpec(x api.Spec) api.Spec {
	x.Wants = slices.Clone(x.Wants)
	return x
}

// sameError holds an error against the one that is due: none, a Code itself,
// or a Spot.
func sameError(t *testing.T, name string, got, want error) {
	t.Helper()
	if !reflect.DeepEqual(got, want) {
		t.Errorf("%s: %v (%T), want %v (%T)", name, got, got, want, want)
	}
	var place *api.Spot
	if errors.As(want, &place) && !errors.Is(got, place.Err) {
		t.Errorf("%s: %v isn't %v", name, got, place.Err)
	}
}

func at(place int, fault api.Code) error { return &api.Spot{At: place, Err: fault} }

// change is one of small, and what Check tells of it.
type change struct {
	name string
	make func(s *api.Snapshot)
	want error
}

// checks holds Check of each changed snapshot, and Fair beside a spec that is
// at fault as well, against what is due; and that neither changed anything.
func checks(t *testing.T, begin func() api.Snapshot, l []change) {
	t.Helper()
	for _, c := range l {
		s := begin()
		c.make(&s)
		was := cloneSnapshot(s)
		sameError(t, c.name, Check(s), c.want)
		sameError(t, c.name+", once more", Check(s), c.want)
		x := api.Spec{Preempts: -1, Wants: []api.Want{{Pod: -1}}}
		due := c.want
		if due == nil {
			due = api.ErrLarge
		}
		sameError(t, c.name+", Fair", Fair(s, x), due)
		if !reflect.DeepEqual(s, was) {
			t.Errorf("%s: the snapshot became %v", c.name, s)
		}
	}
}

func TestSnapshotsThatMayBe(t *testing.T) { // P3.1, P3.2
	for i, s := range []api.Snapshot{small(), full(), least()} {
		if err := Check(s); err != nil {
			t.Errorf("snapshot %d: %v", i, err)
		}
		if err := Fair(s, api.Spec{}); err != nil {
			t.Errorf("snapshot %d, with no wants: %v", i, err)
		}
		if err := Fair(s, api.Spec{Wants: []api.Want{}, Preempts: api.MaxMoves, Shifts: api.MaxMoves}); err != nil {
			t.Errorf("snapshot %d, with the greatest budgets: %v", i, err)
		}
	}
}

func TestHowMany(t *testing.T) { // P3.1
	addNode := func(s *api.Snapshot) { s.Nodes = append(s.Nodes, api.Node{Id: api.MaxId, Zone: 1}) }
	addLoad := func(s *api.Snapshot) { s.Loads = append(s.Loads, api.Load{Id: api.MaxId}) }
	addPod := func(s *api.Snapshot) { s.Pods = append(s.Pods, api.Pod{Id: api.MaxId, Load: api.MaxId}) }
	checks(t, full, []change{
		{"one node more", addNode, api.ErrLarge},
		{"one load more", addLoad, api.ErrLarge},
		{"one pod more", addPod, api.ErrLarge},
		{"no nodes", func(s *api.Snapshot) { s.Nodes = nil }, api.ErrLarge},
		{"an empty list of nodes", func(s *api.Snapshot) { s.Nodes = []api.Node{} }, api.ErrLarge},
		{"nothing at all", func(s *api.Snapshot) { *s = api.Snapshot{} }, api.ErrLarge},
		{"no loads and no pods", func(s *api.Snapshot) { s.Loads, s.Pods = nil, nil }, nil},
		{"empty lists of loads and pods", func(s *api.Snapshot) { s.Loads, s.Pods = []api.Load{}, []api.Pod{} }, nil},
		{"no pods", func(s *api.Snapshot) { s.Pods = nil }, nil},
		{"no loads, but pods", func(s *api.Snapshot) { s.Loads = nil }, at(8, api.ErrNone)},
		{"one node", func(s *api.Snapshot) { s.Nodes, s.Pods = s.Nodes[:1], nil }, nil},
		// Too many are told ahead of any one at fault, wherever it stands.
		{"one pod more, and a node at fault", func(s *api.Snapshot) { s.Nodes[0].Id = 0; addPod(s) }, api.ErrLarge},
		{"one load more, and a node at fault", func(s *api.Snapshot) { s.Nodes[1].Id = s.Nodes[0].Id; addLoad(s) }, api.ErrLarge},
		{"no nodes, and a load at fault", func(s *api.Snapshot) { s.Nodes = nil; s.Loads[0].Id = 0 }, api.ErrLarge},
		{"very many", func(s *api.Snapshot) { s.Pods = make([]api.Pod, 1<<20) }, api.ErrLarge},
	})
	for many := 1; many <= api.MaxNodes+2; many++ {
		s := api.Snapshot{}
		for i := range many {
			s.Nodes = append(s.Nodes, api.Node{Id: i + 1, Zone: 1})
		}
		var want error
		if many > api.MaxNodes {
			want = api.ErrLarge
		}
		sameError(t, "nodes", Check(s), want)
	}
	for many := range api.MaxPods + 3 {
		s := least()
		for i := range many {
			s.Loads = append(s.Loads, api.Load{Id: i + 1})
		}
		var want error
		if many > api.MaxLoads {
			want = api.ErrLarge
		}
		sameError(t, "loads", Check(s), want)
		s.Loads = []api.Load{{Id: 1}}
		for i := range many {
			s.Pods = append(s.Pods, api.Pod{Id: i + 1, Load: 1})
		}
		want = nil
		if many > api.MaxPods {
			want = api.ErrLarge
		}
		sameError(t, "pods", Check(s), want)
	}
}

func TestIds(t *testing.T) { // P3.1
	checks(t, small, []change{
		{"the first node 0", func(s *api.Snapshot) { s.Nodes[0].Id = 0; s.Pods[3].Node = 0 }, at(0, api.ErrArg)},
		{"the first node below 0", func(s *api.Snapshot) { s.Nodes[0].Id = -1 }, at(0, api.ErrArg)},
		{"the first node the least number", func(s *api.Snapshot) { s.Nodes[0].Id = math.MinInt }, at(0, api.ErrArg)},
		{"the last node MaxId", func(s *api.Snapshot) { s.Nodes[2].Id = api.MaxId; s.Pods[2].Node = api.MaxId }, nil},
		{"the last node one above", func(s *api.Snapshot) { s.Nodes[2].Id = api.MaxId + 1 }, at(2, api.ErrArg)},
		{"the last node the greatest number", func(s *api.Snapshot) { s.Nodes[2].Id = math.MaxInt }, at(2, api.ErrArg)},
		{"a node twice", func(s *api.Snapshot) { s.Nodes[2].Id = 4 }, at(2, api.ErrTwice)},
		{"a node below the one ahead", func(s *api.Snapshot) { s.Nodes[2].Id = 3 }, at(2, api.ErrArg)},
		{"a node there ahead, but not just ahead", func(s *api.Snapshot) { s.Nodes[2].Id = 1 }, at(2, api.ErrArg)},
		{"a node 0 behind another one", func(s *api.Snapshot) { s.Nodes[1].Id = 0 }, at(1, api.ErrArg)},

		{"the first load 0", func(s *api.Snapshot) { s.Loads[0].Id = 0 }, at(3, api.ErrArg)},
		{"the first load below 0", func(s *api.Snapshot) { s.Loads[0].Id = -7 }, at(3, api.ErrArg)},
		{"the first load the least number", func(s *api.Snapshot) { s.Loads[0].Id = math.MinInt }, at(3, api.ErrArg)},
		{"the last load one above MaxId", func(s *api.Snapshot) { s.Loads[1].Id = api.MaxId + 1 }, at(4, api.ErrArg)},
		{"a load twice", func(s *api.Snapshot) { s.Loads[1].Id = 1 }, at(4, api.ErrTwice)},
		{"a load below the one ahead", func(s *api.Snapshot) { s.Loads[0].Id = 8 }, at(4, api.ErrArg)},

		{"the first pod 0", func(s *api.Snapshot) { s.Pods[0].Id = 0 }, at(5, api.ErrArg)},
		{"the first pod below 0", func(s *api.Snapshot) { s.Pods[0].Id = -1 }, at(5, api.ErrArg)},
		{"the first pod the least number", func(s *api.Snapshot) { s.Pods[0].Id = math.MinInt }, at(5, api.ErrArg)},
		{"the last pod MaxId", func(s *api.Snapshot) { s.Pods[3].Id = api.MaxId }, nil},
		{"the last pod one above", func(s *api.Snapshot) { s.Pods[3].Id = api.MaxId + 1 }, at(8, api.ErrArg)},
		{"a pod twice", func(s *api.Snapshot) { s.Pods[2].Id = 3 }, at(7, api.ErrTwice)},
		{"a pod below the one ahead", func(s *api.Snapshot) { s.Pods[2].Id = 2 }, at(7, api.ErrArg)},
		{"the last pod twice", func(s *api.Snapshot) { s.Pods[3].Id = 5 }, at(8, api.ErrTwice)},
		// Those of the list ahead are none ahead.
		{"a load with the last node's Id", func(s *api.Snapshot) {
			s.Loads[0].Id, s.Loads[1].Id = 9, 10
			for i := range s.Pods {
				s.Pods[i].Load = 10
			}
		}, nil},
		{"a pod with the last load's Id", func(s *api.Snapshot) {
			for i := range s.Pods {
				s.Pods[i].Id = 7 + i
			}
		}, nil},
	})
}

func TestNumbersOfNodes(t *testing.T) { // P3.1
	l := []change{
		{"zone 0", func(s *api.Snapshot) { s.Nodes[1].Zone = 0 }, at(1, api.ErrArg)},
		{"zone below 0", func(s *api.Snapshot) { s.Nodes[1].Zone = -1 }, at(1, api.ErrArg)},
		{"zone 8", func(s *api.Snapshot) { s.Nodes[1].Zone = 8 }, nil},
		{"zone 9", func(s *api.Snapshot) { s.Nodes[1].Zone = 9 }, at(1, api.ErrArg)},
		{"zone far above", func(s *api.Snapshot) { s.Nodes[2].Zone = math.MaxInt }, at(2, api.ErrArg)},
		{"zone far below", func(s *api.Snapshot) { s.Nodes[0].Zone = math.MinInt }, at(0, api.ErrArg)},
	}
	for k := range 4 {
		l = append(l,
			change{"held as the cap", func(s *api.Snapshot) { s.Nodes[1].Held[k] = 5 }, nil},
			change{"held one above", func(s *api.Snapshot) { s.Nodes[1].Held[k] = 6 }, at(1, api.ErrArg)},
			change{"held of no cap", func(s *api.Snapshot) { s.Nodes[2].Held[k] = 1 }, at(2, api.ErrArg)},
			change{"held of 64 bits", func(s *api.Snapshot) { s.Nodes[0].Held[k] = top }, at(0, api.ErrArg)},
			change{"held and cap of 64 bits", func(s *api.Snapshot) { s.Nodes[0].Held[k], s.Nodes[0].Cap[k] = top-1, top }, nil},
		)
	}
	checks(t, small, l)
}

func TestNumbersOfLoads(t *testing.T) { // P3.1
	checks(t, small, []change{
		{"skew 0", func(s *api.Snapshot) { s.Loads[0].Skew = 0 }, nil},
		{"skew below 0", func(s *api.Snapshot) { s.Loads[0].Skew = -1 }, at(3, api.ErrArg)},
		{"skew 100", func(s *api.Snapshot) { s.Loads[0].Skew = 100 }, nil},
		{"skew 101", func(s *api.Snapshot) { s.Loads[1].Skew = 101 }, at(4, api.ErrArg)},
		{"skew far below", func(s *api.Snapshot) { s.Loads[1].Skew = math.MinInt }, at(4, api.ErrArg)},
		{"min 0", func(s *api.Snapshot) { s.Loads[0].Min = 0 }, nil},
		{"min below 0", func(s *api.Snapshot) { s.Loads[0].Min = -1 }, at(3, api.ErrArg)},
		{"min as max", func(s *api.Snapshot) { s.Loads[0].Min = 3 }, nil},
		{"min one above max", func(s *api.Snapshot) { s.Loads[0].Min = 4 }, at(3, api.ErrArg)},
		{"max 0", func(s *api.Snapshot) { s.Loads[1].Max = 0 }, nil},
		{"max 0, min 1", func(s *api.Snapshot) { s.Loads[0].Max = 0 }, at(3, api.ErrArg)},
		{"max 100", func(s *api.Snapshot) { s.Loads[1].Max = 100 }, nil},
		{"max 101", func(s *api.Snapshot) { s.Loads[1].Max = 101 }, at(4, api.ErrArg)},
		{"min and max 100", func(s *api.Snapshot) { s.Loads[1].Min, s.Loads[1].Max = 100, 100 }, nil},
		{"min and max 101", func(s *api.Snapshot) { s.Loads[1].Min, s.Loads[1].Max = 101, 101 }, at(4, api.ErrArg)},
		{"min and max below 0", func(s *api.Snapshot) { s.Loads[1].Min, s.Loads[1].Max = -1, -1 }, at(4, api.ErrArg)},
		{"max below 0", func(s *api.Snapshot) { s.Loads[1].Max = -1 }, at(4, api.ErrArg)},
		// How many pods a load has, or where they are, is no matter here.
		{"fewer pods than min", func(s *api.Snapshot) { s.Loads[0].Min, s.Loads[0].Max = 50, 60 }, nil},
		{"more pods than max", func(s *api.Snapshot) { s.Loads[0].Min, s.Loads[0].Max = 0, 0 }, nil},
	})
}

func TestNumbersOfPods(t *testing.T) { // P3.1
	checks(t, small, []change{
		{"prio 0", func(s *api.Snapshot) { s.Pods[0].Prio = 0 }, nil},
		{"prio below 0", func(s *api.Snapshot) { s.Pods[0].Prio = -1 }, at(5, api.ErrArg)},
		{"prio 100", func(s *api.Snapshot) { s.Pods[3].Prio = 100 }, nil},
		{"prio 101", func(s *api.Snapshot) { s.Pods[3].Prio = 101 }, at(8, api.ErrArg)},
		{"prio far above", func(s *api.Snapshot) { s.Pods[1].Prio = math.MaxInt }, at(6, api.ErrArg)},
		{"any req", func(s *api.Snapshot) { s.Pods[1].Req = api.Vec{top, top, top, top} }, nil},

		{"a load that isn't there", func(s *api.Snapshot) { s.Pods[0].Load = 2 }, at(5, api.ErrNone)},
		{"a node's Id for a load", func(s *api.Snapshot) { s.Pods[1].Load = 4 }, at(6, api.ErrNone)},
		{"load 0", func(s *api.Snapshot) { s.Pods[2].Load = 0 }, at(7, api.ErrNone)},
		{"load below 0", func(s *api.Snapshot) { s.Pods[3].Load = -1 }, at(8, api.ErrNone)},
		{"load above MaxId", func(s *api.Snapshot) { s.Pods[3].Load = api.MaxId + 1 }, at(8, api.ErrNone)},

		{"nowhere", func(s *api.Snapshot) { s.Pods[0].Node = 0 }, nil},
		{"another node", func(s *api.Snapshot) { s.Pods[0].Node = 9 }, nil},
		{"a node that isn't there", func(s *api.Snapshot) { s.Pods[0].Node = 2 }, at(5, api.ErrNone)},
		{"a load's Id for a node", func(s *api.Snapshot) { s.Pods[1].Node = 7 }, at(6, api.ErrNone)},
		{"node below 0", func(s *api.Snapshot) { s.Pods[2].Node = -1 }, at(7, api.ErrNone)},
		{"node above MaxId", func(s *api.Snapshot) { s.Pods[3].Node = api.MaxId + 1 }, at(8, api.ErrNone)},
	})
}

func TestOneWithSeveralFaults(t *testing.T) { // P3.1, R1
	checks(t, small, []change{
		{"a node twice, of zone 0", func(s *api.Snapshot) { s.Nodes[1].Id, s.Nodes[1].Zone = 1, 0 }, at(1, api.ErrTwice)},
		{"a node twice, held above cap", func(s *api.Snapshot) { s.Nodes[1].Id, s.Nodes[1].Held = 1, api.Vec{6} }, at(1, api.ErrTwice)},
		{"a load twice, min above max", func(s *api.Snapshot) { s.Loads[1].Id, s.Loads[1].Min = 1, 50 }, at(4, api.ErrTwice)},
		{"a pod twice, of prio 101", func(s *api.Snapshot) { s.Pods[1].Id, s.Pods[1].Prio = 2, 101 }, at(6, api.ErrTwice)},
		{"a pod twice, of no load", func(s *api.Snapshot) { s.Pods[1].Id, s.Pods[1].Load = 2, 99 }, at(6, api.ErrTwice)},
		{"a pod twice, at no node", func(s *api.Snapshot) { s.Pods[1].Id, s.Pods[1].Node = 2, 99 }, at(6, api.ErrTwice)},
		{"a pod below, of no load", func(s *api.Snapshot) { s.Pods[1].Id, s.Pods[1].Load = 1, 99 }, at(6, api.ErrArg)},
		{"pod 0 of no load", func(s *api.Snapshot) { s.Pods[0].Id, s.Pods[0].Load = 0, 99 }, at(5, api.ErrArg)},
		{"a pod above MaxId at no node", func(s *api.Snapshot) { s.Pods[3].Id, s.Pods[3].Node = api.MaxId+1, 99 }, at(8, api.ErrArg)},
		{"a pod of prio 101 of no load", func(s *api.Snapshot) { s.Pods[3].Prio, s.Pods[3].Load = 101, 99 }, at(8, api.ErrArg)},
		{"a pod of prio -1 at no node", func(s *api.Snapshot) { s.Pods[3].Prio, s.Pods[3].Node = -1, 99 }, at(8, api.ErrArg)},
		{"a pod of no load at no node", func(s *api.Snapshot) { s.Pods[3].Load, s.Pods[3].Node = 99, 99 }, at(8, api.ErrNone)},
	})
}

func TestTheFirstOfSeveralAtFault(t *testing.T) { // P3.1, R1
	checks(t, small, []change{
		{"two nodes", func(s *api.Snapshot) { s.Nodes[1].Zone = 9; s.Nodes[2].Id = 4 }, at(1, api.ErrArg)},
		{"two nodes, turned", func(s *api.Snapshot) { s.Nodes[1].Id = 1; s.Nodes[2].Zone = 9 }, at(1, api.ErrTwice)},
		{"three nodes 0", func(s *api.Snapshot) { s.Nodes[0].Id, s.Nodes[1].Id, s.Nodes[2].Id = 0, 0, 0 }, at(0, api.ErrArg)},
		{"two nodes above MaxId", func(s *api.Snapshot) { s.Nodes[1].Id, s.Nodes[2].Id = api.MaxId+1, api.MaxId+1 }, at(1, api.ErrArg)},
		{"two loads", func(s *api.Snapshot) { s.Loads[0].Skew = 101; s.Loads[1].Id = 1 }, at(3, api.ErrArg)},
		{"two pods", func(s *api.Snapshot) { s.Pods[2].Load = 99; s.Pods[3].Id = 5 }, at(7, api.ErrNone)},
		{"two pods, turned", func(s *api.Snapshot) { s.Pods[1].Id = 2; s.Pods[2].Node = 99 }, at(6, api.ErrTwice)},
		{"a pod, a load and a node", func(s *api.Snapshot) { s.Pods[0].Id = 0; s.Loads[0].Id = 0; s.Nodes[2].Zone = 0 }, at(2, api.ErrArg)},
		{"a pod and a load", func(s *api.Snapshot) { s.Pods[0].Id = 0; s.Loads[1].Id = 1 }, at(4, api.ErrTwice)},
		{"a pod of a load at fault", func(s *api.Snapshot) { s.Loads[1].Max = 101; s.Pods[1].Load = 99 }, at(4, api.ErrArg)},
	})
}

func TestSpecs(t *testing.T) { // P3.2
	req := api.Vec{0, 0, 0, 1}
	for _, c := range []struct {
		name string
		make func(x *api.Spec)
		want error
	}{
		{"as it is", func(x *api.Spec) {}, nil},
		{"no wants", func(x *api.Spec) { x.Wants = nil }, nil},
		{"an empty list of wants", func(x *api.Spec) { x.Wants = []api.Want{} }, nil},
		{"nothing at all", func(x *api.Spec) { *x = api.Spec{} }, nil},
		{"a want for each pod", func(x *api.Spec) { x.Wants = []api.Want{{Pod: 2}, {Pod: 3}, {Pod: 5}, {Pod: 6}} }, nil},
		{"the last pod alone", func(x *api.Spec) { x.Wants = []api.Want{{Pod: 6}} }, nil},
		{"any req, with stay", func(x *api.Spec) { x.Wants[0].Req = api.Vec{top, top, top, top} }, nil},
		{"no req, with stay", func(x *api.Spec) { x.Wants[0].Req = api.Vec{} }, nil},

		{"budgets 0", func(x *api.Spec) { x.Preempts, x.Shifts = 0, 0 }, nil},
		{"budgets 40", func(x *api.Spec) { x.Preempts, x.Shifts = 40, 40 }, nil},
		{"preempts below 0", func(x *api.Spec) { x.Preempts = -1 }, api.ErrLarge},
		{"preempts 41", func(x *api.Spec) { x.Preempts = 41 }, api.ErrLarge},
		{"preempts far below", func(x *api.Spec) { x.Preempts = math.MinInt }, api.ErrLarge},
		{"shifts below 0", func(x *api.Spec) { x.Shifts = -1 }, api.ErrLarge},
		{"shifts 41", func(x *api.Spec) { x.Shifts = 41 }, api.ErrLarge},
		{"shifts far above", func(x *api.Spec) { x.Shifts = math.MaxInt }, api.ErrLarge},
		{"a budget ahead of a want", func(x *api.Spec) { x.Shifts = 41; x.Wants[0].Pod = 99 }, api.ErrLarge},
		{"a budget with no wants", func(x *api.Spec) { *x = api.Spec{Preempts: 41} }, api.ErrLarge},

		{"a pod twice", func(x *api.Spec) { x.Wants[1].Pod = 2 }, at(1, api.ErrTwice)},
		{"a pod twice, at last", func(x *api.Spec) { x.Wants[2].Pod = 3 }, at(2, api.ErrTwice)},
		{"a pod below", func(x *api.Spec) { x.Wants[2].Pod = 2 }, at(2, api.ErrArg)},
		{"a pod below, that isn't there", func(x *api.Spec) { x.Wants[2].Pod = 1 }, at(2, api.ErrArg)},
		{"a pod 0 below", func(x *api.Spec) { x.Wants[1].Pod = 0 }, at(1, api.ErrArg)},
		{"a pod that isn't there", func(x *api.Spec) { x.Wants[2].Pod = 4 }, at(2, api.ErrNone)},
		{"a pod behind all", func(x *api.Spec) { x.Wants[2].Pod = 7 }, at(2, api.ErrNone)},
		{"a pod above MaxId", func(x *api.Spec) { x.Wants[2].Pod = api.MaxId + 1 }, at(2, api.ErrNone)},
		{"a node's Id for a pod", func(x *api.Spec) { x.Wants[2].Pod = 9 }, at(2, api.ErrNone)},
		// The first want has none ahead: its pod is there, or it isn't.
		{"a first pod that isn't there", func(x *api.Spec) { x.Wants[0].Pod = 1 }, at(0, api.ErrNone)},
		{"a first pod 0", func(x *api.Spec) { x.Wants[0].Pod = 0 }, at(0, api.ErrNone)},
		{"a first pod below 0", func(x *api.Spec) { x.Wants[0].Pod = -1 }, at(0, api.ErrNone)},
		{"a first pod the least number", func(x *api.Spec) { x.Wants[0].Pod = math.MinInt }, at(0, api.ErrNone)},
		{"a req without stay", func(x *api.Spec) { x.Wants[1].Req = req }, at(1, api.ErrArg)},
		{"a req whose stay is gone", func(x *api.Spec) { x.Wants[0].Stay = false }, at(0, api.ErrArg)},

		{"twice, with a req", func(x *api.Spec) { x.Wants[1].Pod, x.Wants[1].Req = 2, req }, at(1, api.ErrTwice)},
		{"not there, with a req", func(x *api.Spec) { x.Wants[1].Pod, x.Wants[1].Req = 4, req }, at(1, api.ErrNone)},
		{"two at fault", func(x *api.Spec) { x.Wants[1].Req = req; x.Wants[2].Pod = 3 }, at(1, api.ErrArg)},
		{"two at fault, turned", func(x *api.Spec) { x.Wants[1].Pod = 2; x.Wants[2].Pod = 99 }, at(1, api.ErrTwice)},
		{"two that aren't there, and are one", func(x *api.Spec) { x.Wants[1].Pod, x.Wants[2].Pod = 4, 4 }, at(1, api.ErrNone)},
		{"very many", func(x *api.Spec) { x.Wants = slices.Repeat(x.Wants, 1<<16) }, at(3, api.ErrArg)},
	} {
		s, x := small(), wish()
		c.make(&x)
		was := cloneSpec(x)
		sameError(t, c.name, Fair(s, x), c.want)
		sameError(t, c.name+", once more", Fair(s, x), c.want)
		if !reflect.DeepEqual(s, small()) || !reflect.DeepEqual(x, was) {
			t.Errorf("%s: what was handed in became %v, %v", c.name, s, x)
		}
	}
}

func TestReqWithoutStay(t *testing.T) { // P3.2
	for k := range 4 {
		x := wish()
		x.Wants[1].Req[k] = 1
		sameError(t, "a req of one thing", Fair(small(), x), at(1, api.ErrArg))
		x.Wants[1].Req[k] = top
		sameError(t, "the greatest req of one thing", Fair(small(), x), at(1, api.ErrArg))
		x.Wants[1].Stay = true
		sameError(t, "a req with stay", Fair(small(), x), nil)
	}
}

func TestWantsWithoutPods(t *testing.T) { // P3.2
	sameError(t, "a want", Fair(least(), api.Spec{Wants: []api.Want{{Pod: 1}}}), at(0, api.ErrNone))
	sameError(t, "no want", Fair(least(), api.Spec{}), nil)
	sameError(t, "no snapshot", Fair(api.Snapshot{}, api.Spec{}), api.ErrLarge)
	sameError(t, "no snapshot, with wants", Fair(api.Snapshot{}, wish()), api.ErrLarge)
}

func TestOneThatIsThere(t *testing.T) { // P3.3
	s, x := small(), wish()
	for i, n := range s.Nodes {
		if got, ok := Node(s, n.Id); !ok || got != s.Nodes[i] {
			t.Errorf("Node(%d): %v, %v", n.Id, got, ok)
		}
	}
	for i, l := range s.Loads {
		if got, ok := Load(s, l.Id); !ok || got != s.Loads[i] {
			t.Errorf("Load(%d): %v, %v", l.Id, got, ok)
		}
	}
	for i, w := range x.Wants {
		if got, ok := Want(x, w.Pod); !ok || got != x.Wants[i] {
			t.Errorf("Want(%d): %v, %v", w.Pod, got, ok)
		}
	}
	if !reflect.DeepEqual(s, small()) || !reflect.DeepEqual(x, wish()) {
		t.Error("what was handed in has changed")
	}
}

func TestOneThatIsNotThere(t *testing.T) { // P3.3
	for _, s := range []api.Snapshot{{}, small(), least()} {
		for _, id := range []int{0, -1, 2, 3, 8, 10, api.MaxId, api.MaxId + 1, math.MaxInt, math.MinInt} {
			if n, ok := Node(s, id); ok || n != (api.Node{}) {
				t.Errorf("Node(%d): %v, %v", id, n, ok)
			}
			if l, ok := Load(s, id); ok || l != (api.Load{}) {
				t.Errorf("Load(%d): %v, %v", id, l, ok)
			}
		}
	}
	for _, x := range []api.Spec{{}, wish()} {
		for _, pod := range []int{0, -1, 1, 4, 5, 7, api.MaxId, math.MaxInt, math.MinInt} {
			if w, ok := Want(x, pod); ok || w != (api.Want{}) {
				t.Errorf("Want(%d): %v, %v", pod, w, ok)
			}
		}
	}
}

// Lists that may not be have their first ones, too.
func TestTheFirstOfSeveral(t *testing.T) { // P3.3, P1
	s := api.Snapshot{
		Nodes: []api.Node{{Id: 5, Zone: 1}, {Id: 0, Zone: 7}, {Id: 5, Zone: 2}, {Id: -3, Zone: 3}, {Id: 1, Zone: 4}},
		Loads: []api.Load{{Id: 9, Max: 1}, {Id: -1, Max: 7}, {Id: 9, Max: 2}, {Id: 0, Max: 3}, {Id: 2, Max: 4}},
	}
	for id, zone := range map[int]int{5: 1, 0: 7, -3: 3, 1: 4} {
		if n, ok := Node(s, id); !ok || n.Id != id || n.Zone != zone {
			t.Errorf("Node(%d): %v, %v", id, n, ok)
		}
	}
	for id, most := range map[int]int{9: 1, -1: 7, 0: 3, 2: 4} {
		if l, ok := Load(s, id); !ok || l.Id != id || l.Max != most {
			t.Errorf("Load(%d): %v, %v", id, l, ok)
		}
	}
	x := api.Spec{Wants: []api.Want{{Pod: 6, Stay: true}, {Pod: 0, Req: api.Vec{1}}, {Pod: 6}, {Pod: 1, Stay: true}}}
	for pod, place := range map[int]int{6: 0, 0: 1, 1: 3} {
		if w, ok := Want(x, pod); !ok || w != x.Wants[place] {
			t.Errorf("Want(%d): %v, %v", pod, w, ok)
		}
	}
}

func TestZones(t *testing.T) { // P3.3
	for _, c := range []struct{ zones, want []int }{
		{nil, nil},
		{[]int{4}, []int{4}},
		{[]int{3, 1, 3}, []int{1, 3}},
		{[]int{2, 2, 2}, []int{2}},
		{[]int{1, 2, 3}, []int{1, 2, 3}},
		{[]int{8, 7, 6, 5, 4, 3, 2, 1}, []int{1, 2, 3, 4, 5, 6, 7, 8}},
		{[]int{5, 1, 5, 8, 1, 8, 5, 2}, []int{1, 2, 5, 8}},
		{[]int{0, math.MaxInt, -4, 9, math.MinInt, -4, 0}, []int{math.MinInt, -4, 0, 9, math.MaxInt}},
		{slices.Repeat([]int{9, 3, 3, 7}, 50), []int{3, 7, 9}},
	} {
		var s api.Snapshot
		for i, z := range c.zones {
			s.Nodes = append(s.Nodes, api.Node{Id: i + 1, Zone: z})
		}
		was := cloneSnapshot(s)
		if got := Zones(s); !slices.Equal(got, c.want) {
			t.Errorf("zones of %v: %v, want %v", c.zones, got, c.want)
		}
		if !reflect.DeepEqual(s, was) {
			t.Errorf("zones of %v: the snapshot became %v", c.zones, s)
		}
	}
	if got := Zones(api.Snapshot{Nodes: []api.Node{}}); len(got) != 0 {
		t.Errorf("zones of no nodes: %v", got)
	}
}

func TestFewerPods(t *testing.T) { // P3.4
	for i, s := range []api.Snapshot{small(), full(), least()} {
		for len(s.Pods) > 0 {
			s.Pods = s.Pods[:len(s.Pods)-1]
			if err := Check(s); err != nil {
				t.Errorf("snapshot %d, with %d pods: %v", i, len(s.Pods), err)
			}
		}
	}
	// A spec goes along while its wants' pods are there.
	s, x := small(), api.Spec{Wants: []api.Want{{Pod: 2}, {Pod: 3}}}
	for many := 4; many >= 0; many-- {
		s.Pods = s.Pods[:many]
		var want error
		if many < 2 {
			want = at(many, api.ErrNone)
		}
		sameError(t, "a spec with fewer pods", Fair(s, x), want)
	}
}

func TestWhatIsToldIsNewMemory(t *testing.T) { // R2
	s := small()
	s.Pods[1].Id = 2
	err1, err2 := Check(s), Check(s)
	err1.(*api.Spot).At = 99
	sameError(t, "a second error", err2, at(6, api.ErrTwice))
	sameError(t, "a third error", Check(s), at(6, api.ErrTwice))
	x := api.Spec{Wants: []api.Want{{Pod: 9}}}
	err1, err2 = Fair(small(), x), Fair(small(), x)
	err1.(*api.Spot).Err = api.ErrGoal
	sameError(t, "a second error of a want", err2, at(0, api.ErrNone))
	z1, z2 := Zones(small()), Zones(small())
	clear(z1[:cap(z1)])
	if !slices.Equal(z2, []int{1, 3}) {
		t.Errorf("two answers of Zones share memory: %v", z2)
	}
	s = small()
	n, _ := Node(s, 1)
	n.Cap[0] = 77
	if !reflect.DeepEqual(s, small()) {
		t.Error("what Node told is the snapshot's own")
	}
}

// What lies behind a list's end, within its memory, is neither read nor
// written.
func TestWhatLiesBehindAList(t *testing.T) { // R2
	s := small()
	s.Nodes = append(s.Nodes, api.Node{Id: 1})[:3]
	s.Loads = append(s.Loads, api.Load{Id: 1})[:2]
	s.Pods = append(s.Pods, api.Pod{Id: 1})[:4]
	sameError(t, "Check", Check(s), nil)
	Zones(s)
	if n := s.Nodes[:4][3]; n != (api.Node{Id: 1}) {
		t.Errorf("the node behind became %v", n)
	}
	if l := s.Loads[:3][2]; l != (api.Load{Id: 1}) {
		t.Errorf("the load behind became %v", l)
	}
	if p := s.Pods[:5][4]; p != (api.Pod{Id: 1}) {
		t.Errorf("the pod behind became %v", p)
	}
}
