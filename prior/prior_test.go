package prior

import (
	"errors"
	"math"
	"reflect"
	"slices"
	"testing"

	"dunnage/api"
	"dunnage/cluster"
	"dunnage/state"
)

// yard is a snapshot that may be. Pod 19 isn't there.
func yard() api.Snapshot {
	return api.Snapshot{
		Nodes: []api.Node{{Id: 1, Zone: 1}, {Id: 3, Zone: 2}, {Id: 4, Zone: 2}},
		Loads: []api.Load{{Id: 5, Max: 100}},
		Pods: []api.Pod{
			{Id: 11, Load: 5, Prio: 4, Node: 1},
			{Id: 12, Load: 5, Prio: 2, Node: 1},
			{Id: 13, Load: 5, Prio: 4, Node: 3},
			{Id: 14, Load: 5, Prio: 6},
			{Id: 15, Load: 5, Prio: 2, Node: 1},
			{Id: 16, Load: 5, Prio: 0, Node: 1},
			{Id: 17, Load: 5, Prio: 6, Node: 1},
			{Id: 18, Load: 5, Prio: 100},
		},
	}
}

func first() api.State { return state.First(yard()) }

// pods are a state of these.
func pods(each ...api.Pod) api.State { return api.State{Pods: each} }

// prios are pods of Ids 11, 12 and so on, nowhere, with these Prios.
func prios(each ...int) api.State {
	var t api.State
	for i, prio := range each {
		t.Pods = append(t.Pods, api.Pod{Id: 11 + i, Load: 5, Prio: prio})
	}
	return t
}

// preempt is a move by which a pod makes another one go.
func preempt(pod, over int) api.Move {
	return api.Move{Kind: api.Preempt, Pod: pod, Node: 1, Over: over}
}

// may holds what May, and Check of a Preempt, tell against what is due.
func may(t *testing.T, name string, s api.State, pod, over int, due bool) {
	t.Helper()
	var fault error = api.ErrPrio
	if due {
		fault = nil
	}
	for range 2 {
		if May(s, pod, over) != due {
			t.Errorf("%s: May of %d over %d: %v", name, pod, over, !due)
		}
	}
	checked(t, name, s, preempt(pod, over), fault)
}

// checked holds what Check tells against what is due: nil, or the Code itself.
func checked(t *testing.T, name string, s api.State, m api.Move, due error) {
	t.Helper()
	for range 2 {
		if err := Check(s, m); err != due {
			t.Errorf("%s: Check of %v: %v (%T), want %v", name, m, err, err, due)
		}
	}
}

// victims holds the Victims of a pod at a node against those that are due;
// none may be told as nil or as an empty list.
func victims(t *testing.T, name string, s api.State, pod, node int, due ...int) {
	t.Helper()
	for range 2 {
		if l := Victims(s, pod, node); !slices.Equal(l, due) {
			t.Errorf("%s: Victims of %d at %d: %v, want %v", name, pod, node, l, due)
		}
	}
}

func TestTheSampleMayBe(t *testing.T) {
	if err := cluster.Check(yard()); err != nil {
		t.Error(err)
	}
}

// The document's example: of Prio 1, and 2, the first may go for the second.
func TestTheExample(t *testing.T) { // P10.1
	s := prios(1, 2)
	may(t, "the first for the second", s, 12, 11, true)
	may(t, "the second for the first", s, 11, 12, false)
	s.Pods[0].Node, s.Pods[1].Node = 7, 7
	victims(t, "of the second", s, 12, 7, 11)
	victims(t, "of the first", s, 11, 7)
}

func TestMay(t *testing.T) { // P10.1
	for _, c := range []struct {
		name      string
		pod, over int
		due       bool
	}{
		{"one of less Prio", 11, 12, true},
		{"one of Prio 0", 12, 16, true},
		{"one of just one less", 18, 14, true},
		{"one that is nowhere", 18, 14, true},
		{"one at another node", 17, 13, true},
		{"for one that is nowhere", 14, 11, true},
		{"a later one of the list", 11, 15, true},
		{"one ahead in the list", 18, 11, true},
		{"one of the same Prio", 11, 13, false},
		{"one of the same Prio, the other way", 13, 11, false},
		{"one of the same Prio at its node", 12, 15, false},
		{"two of the same Prio, one of them nowhere", 14, 17, false},
		{"one of more Prio", 12, 11, false},
		{"one of more Prio, for one of Prio 0", 16, 12, false},
		{"one of more Prio that is nowhere", 11, 14, false},
		{"a pod and itself", 11, 11, false},
		{"a pod of Prio 0 and itself", 16, 16, false},
		{"a pod of Prio 100 and itself", 18, 18, false},
		{"over isn't there", 11, 19, false},
		{"over is 0", 11, 0, false},
		{"pod isn't there", 19, 16, false},
		{"pod is 0", 0, 16, false},
		{"pod isn't there, over of more than 0", 19, 18, false},
		{"neither is there", 19, 20, false},
		{"neither is there, and they are one", 19, 19, false},
		{"both are 0", 0, 0, false},
	} {
		t.Run(c.name, func(t *testing.T) {
			s := first()
			may(t, "as it is", s, c.pod, c.over, c.due)
			slices.Reverse(s.Pods)
			may(t, "turned", s, c.pod, c.over, c.due)
			s.Preempts, s.Shifts = 3, math.MinInt
			may(t, "with budgets used", s, c.pod, c.over, c.due)
		})
	}
}

// Each Prio that may be, held against those about it.
func TestEveryPrio(t *testing.T) { // P10.1
	for prio := range api.MaxCount + 1 {
		s := prios(prio-1, prio, prio, prio+1)
		may(t, "one less", s, 12, 11, true)
		may(t, "the same", s, 12, 13, false)
		may(t, "one more", s, 12, 14, false)
		may(t, "one less than one more", s, 14, 13, true)
	}
}

// Prios below 0, and as great as an int can be: the difference of two may be
// more than an int holds.
func TestPriosThatMayNotBe(t *testing.T) { // P10.1, P1
	rising := []int{math.MinInt, math.MinInt + 1, math.MinInt / 2, -1 << 32, -101, -2, -1, 0, 1, 100, 101, 1 << 31, 1 << 32, math.MaxInt / 2, math.MaxInt - 1, math.MaxInt}
	s := prios(rising...)
	for i := range rising {
		for k := range rising {
			may(t, "any Prios", s, 11+i, 11+k, k < i)
		}
	}
	for i := range s.Pods {
		s.Pods[i].Node = 2
	}
	var due []int
	for i := range rising {
		victims(t, "any Prios", s, 11+i, 2, due...)
		due = append(due, 11+i)
	}
	slices.Reverse(s.Pods)
	victims(t, "any Prios, falling", s, 26, 2, due[:len(due)-1]...)
}

// A pod that isn't there is none of Prio 0: none goes for it, though its Prio
// be below 0, and it goes for none.
func TestOneThatIsNotThere(t *testing.T) { // P10.1, P1
	s := pods(api.Pod{Id: 11, Prio: -5, Node: 2}, api.Pod{Id: 12, Prio: 5, Node: 2}, api.Pod{Id: 13, Prio: 6})
	for _, pod := range []int{0, 10, 14, -11, math.MaxInt, math.MinInt} {
		for _, other := range []int{11, 12, 13, pod} {
			may(t, "not there", s, pod, other, false)
			may(t, "not there", s, other, pod, false)
		}
		for node := range 4 {
			victims(t, "not there", s, pod, node)
		}
	}
	victims(t, "there", s, 13, 2, 11, 12)
}

// Where nobody is, nobody goes.
func TestNoPods(t *testing.T) { // P10.1
	for _, s := range []api.State{{}, {Pods: []api.Pod{}}, {Preempts: 2, Shifts: 3}} {
		for _, pod := range []int{0, 1, -1, math.MaxInt, math.MinInt} {
			may(t, "no pods", s, pod, 1, false)
			may(t, "no pods", s, pod, 0, false)
			may(t, "no pods", s, pod, pod, false)
			for node := -1; node < 3; node++ {
				victims(t, "no pods", s, pod, node)
			}
			checked(t, "no pods", s, api.Move{Kind: api.Place, Pod: pod, Node: 1}, nil)
		}
	}
}

func TestCheck(t *testing.T) { // P10.1
	for _, c := range []struct {
		name string
		m    api.Move
		due  error
	}{
		{"a Preempt of one that may go", preempt(14, 11), nil},
		{"a Preempt of one of Prio 0", preempt(12, 16), nil},
		{"a Preempt of one of more Prio", preempt(12, 11), api.ErrPrio},
		{"a Preempt of one of the same Prio", preempt(14, 17), api.ErrPrio},
		{"a Preempt of Pod itself", preempt(14, 14), api.ErrPrio},
		{"a Preempt whose Over isn't there", preempt(14, 19), api.ErrPrio},
		{"a Preempt whose Over is 0", preempt(14, 0), api.ErrPrio},
		{"a Preempt whose Pod isn't there", preempt(19, 11), api.ErrPrio},
		{"a Preempt whose Pod is 0", preempt(0, 11), api.ErrPrio},
		{"a Preempt of none by none", api.Move{Kind: api.Preempt}, api.ErrPrio},
		{"a Place", api.Move{Kind: api.Place, Pod: 14, Node: 1}, nil},
		{"an Evict", api.Move{Kind: api.Evict, Pod: 11}, nil},
		{"a Shift", api.Move{Kind: api.Shift, Pod: 11, Node: 3}, nil},
		{"a Place of one that isn't there", api.Move{Kind: api.Place, Pod: 19, Node: 1}, nil},
		{"no move", api.Move{}, nil},
	} {
		t.Run(c.name, func(t *testing.T) {
			s := first()
			checked(t, "as it is", s, c.m, c.due)
			slices.Reverse(s.Pods)
			checked(t, "turned", s, c.m, c.due)
			if err := Check(s, c.m); c.due != nil && !errors.Is(err, api.ErrPrio) {
				t.Errorf("%v isn't ErrPrio", err)
			}
		})
	}
}

// Whatever they name, moves of other kinds, and of those that there are not,
// are not judged.
func TestJustAPreemptIsJudged(t *testing.T) { // P10.1
	kinds := []int{api.Place, api.Evict, api.Shift, 0, 5, -1, -4, 8, 260, 1<<32 + 4, math.MaxInt, math.MinInt}
	for _, pod := range []int{0, 11, 12, 14, 19} {
		for _, over := range []int{0, 11, 12, 14, 19} {
			for _, node := range []int{0, 1, 3, 9} {
				for _, kind := range kinds {
					checked(t, "another kind", first(), api.Move{Kind: kind, Pod: pod, Node: node, Over: over}, nil)
				}
			}
		}
	}
}

// Who is where, and to which node the move leads, is layer 5's to say.
func TestCheckAsksOfPriosAlone(t *testing.T) { // P10.1
	for _, node := range []int{0, 1, 3, 4, 9, -1, math.MaxInt} {
		m := api.Move{Kind: api.Preempt, Pod: 17, Node: node, Over: 13}
		checked(t, "one that is somewhere, for one elsewhere", first(), m, nil)
		m.Pod, m.Over = 18, 14
		checked(t, "both nowhere", first(), m, nil)
		m.Pod, m.Over = 14, 18
		checked(t, "both nowhere", first(), m, api.ErrPrio)
	}
	if _, err := state.Make(yard(), api.Spec{}, first(), preempt(18, 13)); err == nil {
		t.Error("a Preempt that can't be made was made")
	}
	checked(t, "one that can't be made", first(), preempt(18, 13), nil)
}

func TestVictims(t *testing.T) { // P10.1
	for _, c := range []struct {
		name      string
		pod, node int
		due       []int
	}{
		{"of one nowhere, at a node of several", 14, 1, []int{16, 12, 15, 11}},
		{"of more Prio than all", 18, 1, []int{16, 12, 15, 11, 17}},
		{"of one elsewhere", 13, 1, []int{16, 12, 15}},
		{"of one at that node", 11, 1, []int{16, 12, 15}},
		{"of the one of most Prio there", 17, 1, []int{16, 12, 15, 11}},
		{"of one of Prio 2 there", 12, 1, []int{16}},
		{"of another of Prio 2 there", 15, 1, []int{16}},
		{"of one of Prio 0 there", 16, 1, nil},
		{"at a node of one", 14, 3, []int{13}},
		{"at a node of one of the same Prio", 11, 3, nil},
		{"at a node of one of more Prio", 12, 3, nil},
		{"at its own node, alone", 13, 3, nil},
		{"at a node without pods", 18, 4, nil},
		{"at a node that isn't there", 18, 9, nil},
		{"at Node 0", 18, 0, nil},
		{"at Node 0, where it is not", 17, 0, nil},
		{"of one that isn't there", 19, 1, nil},
		{"of pod 0", 0, 1, nil},
		{"of one below 0", -11, 1, nil},
		{"of one that isn't there, at Node 0", 19, 0, nil},
	} {
		t.Run(c.name, func(t *testing.T) {
			s := first()
			victims(t, "as it is", s, c.pod, c.node, c.due...)
			slices.Reverse(s.Pods)
			victims(t, "turned", s, c.pod, c.node, c.due...)
			s.Pods = slices.Concat(s.Pods[3:], s.Pods[:3])
			victims(t, "rotated", s, c.pod, c.node, c.due...)
			s.Preempts, s.Shifts = math.MaxInt, -1
			victims(t, "with budgets used", s, c.pod, c.node, c.due...)
		})
	}
}

// Several of one Prio stand by rising Id, in whatever order t has them.
func TestOneOfOnePrioByRisingId(t *testing.T) { // P10.1
	ids := []int{21, 3, 2, 100}
	for number := range 4 * 4 * 4 * 4 {
		order := []int{number % 4, number / 4 % 4, number / 16 % 4, number / 64}
		if len(uniq(order)) < len(order) {
			continue
		}
		s := pods(api.Pod{Id: 50, Prio: 9})
		for _, i := range order {
			s.Pods = append(s.Pods, api.Pod{Id: ids[i], Prio: 8, Node: 6})
		}
		victims(t, "all of one Prio", s, 50, 6, 2, 3, 21, 100)
		for i := range s.Pods {
			if s.Pods[i].Id == 21 {
				s.Pods[i].Prio = 0
			}
		}
		victims(t, "one of less", s, 50, 6, 21, 2, 3, 100)
	}
}

func uniq(l []int) []int { return slices.Compact(slices.Sorted(slices.Values(l))) }

// Ids rise as numbers do, below 0 and as great as can be too.
func TestIdsThatMayNotBe(t *testing.T) { // P10.1, P1
	s := pods(api.Pod{Id: 7, Prio: 1})
	for _, id := range []int{math.MaxInt, 0, math.MinInt, -1, api.MaxId + 1, 10, 9, math.MaxInt - 1} {
		s.Pods = append(s.Pods, api.Pod{Id: id, Node: 1})
	}
	victims(t, "any Ids", s, 7, 1, math.MinInt, -1, 0, 9, 10, api.MaxId+1, math.MaxInt-1, math.MaxInt)
	for _, p := range s.Pods[1:] {
		may(t, "any Ids", s, 7, p.Id, true)
		may(t, "any Ids", s, p.Id, 7, false)
		may(t, "any Ids", s, p.Id, p.Id, false)
	}
}

// Any node but 0 is one, whether the cluster has it or not.
func TestAnyNodeButZero(t *testing.T) { // P10.1, P1
	for _, node := range []int{1, 2, 9, api.MaxId, api.MaxId + 1, -1, math.MaxInt, math.MinInt} {
		s := pods(api.Pod{Id: 1, Node: node}, api.Pod{Id: 2}, api.Pod{Id: 3, Prio: 1}, api.Pod{Id: 4, Node: node})
		victims(t, "any node", s, 3, node, 1, 4)
		victims(t, "any node", s, 3, 0)
		victims(t, "any node", s, 3, node+1)
	}
}

// A pod's number, a load's, a node's and a Prio are told from each other.
func TestNumbersThatAreAlike(t *testing.T) { // P10.1
	s := pods(
		api.Pod{Id: 1, Load: 3, Prio: 4, Node: 2},
		api.Pod{Id: 2, Load: 1, Prio: 3, Node: 4},
		api.Pod{Id: 3, Load: 2, Prio: 2, Node: 1},
		api.Pod{Id: 4, Load: 4, Prio: 1, Node: 2},
		api.Pod{Id: 5, Load: 2, Prio: 5},
	)
	for pod := 1; pod <= 4; pod++ {
		for over := 1; over <= 4; over++ {
			may(t, "alike", s, pod, over, pod < over)
		}
	}
	victims(t, "alike", s, 5, 1, 3)
	victims(t, "alike", s, 5, 2, 4, 1)
	victims(t, "alike", s, 5, 3)
	victims(t, "alike", s, 5, 4, 2)
	victims(t, "alike", s, 5, 5)
}

// Load and Req are nothing to it.
func TestWhatIsNothingToIt(t *testing.T) { // P10.1
	s := first()
	for i := range s.Pods {
		s.Pods[i].Load, s.Pods[i].Req = -i, api.Vec{1<<64 - 1, uint64(i)}
	}
	may(t, "less", s, 11, 12, true)
	may(t, "the same", s, 12, 15, false)
	victims(t, "several", s, 14, 1, 16, 12, 15, 11)
}

// Of pods of one Id the first one is the pod that is asked about; but of those
// at a node each is judged by its own Prio, and told by its Id.
func TestPodsOfOneId(t *testing.T) { // P10.1, P1
	s := pods(
		api.Pod{Id: 1, Prio: 5, Node: 3},
		api.Pod{Id: 2, Prio: 3, Node: 3},
		api.Pod{Id: 1, Prio: 2, Node: 3},
		api.Pod{Id: 2, Prio: 9, Node: 3},
		api.Pod{Id: 2, Prio: 3, Node: 3},
		api.Pod{Id: 2, Prio: 1, Node: 4},
	)
	may(t, "the first ones", s, 1, 2, true)
	may(t, "the first ones", s, 2, 1, false)
	may(t, "the first one, and itself", s, 1, 1, false)
	may(t, "the first one, and itself", s, 2, 2, false)
	victims(t, "each by its own Prio", s, 1, 3, 1, 2, 2)
	victims(t, "each by its own Prio", s, 2, 3, 1)
	victims(t, "each by its own Prio", s, 2, 4, 2)
}

// None goes for itself, and of two at most one may go for the other.
func TestNoneGoesForItself(t *testing.T) { // P10.2
	s := first()
	for _, p := range s.Pods {
		may(t, "itself", s, p.Id, p.Id, false)
		for node := range 5 {
			if slices.Contains(Victims(s, p.Id, node), p.Id) {
				t.Errorf("pod %d is told to go for itself at node %d", p.Id, node)
			}
		}
		for _, q := range s.Pods {
			if May(s, p.Id, q.Id) && May(s, q.Id, p.Id) {
				t.Errorf("pods %d and %d may go for each other", p.Id, q.Id)
			}
			if slices.Contains(Victims(s, p.Id, 1), q.Id) && slices.Contains(Victims(s, q.Id, 1), p.Id) {
				t.Errorf("pods %d and %d are each other's victims", p.Id, q.Id)
			}
		}
	}
}

// Lists far longer than those that may be.
func TestLongLists(t *testing.T) { // P1
	var s api.State
	var due []int
	for i := range 5_000 {
		s.Pods = append(s.Pods, api.Pod{Id: 5_000 - i, Prio: -(i % 2), Node: 1 + i%4/3})
	}
	for _, prio := range []int{-1, 0} {
		for id := 1; id <= 5_000; id++ {
			if i := 5_000 - id; -(i%2) == prio && i%4 != 3 {
				due = append(due, id)
			}
		}
	}
	s.Pods = append(s.Pods, api.Pod{Id: 9_999, Prio: 1})
	victims(t, "long", s, 9_999, 1, due...)
	may(t, "the first one for the last one", s, 9_999, 5_000, true)
	may(t, "the last one for the first one", s, 5_000, 9_999, false)
}

// What is handed in stays as it is, and the same call is told the same.
func TestHandedInStays(t *testing.T) { // R2, R4
	used, turned := first(), first()
	used.Preempts, used.Shifts = 4, 7
	slices.Reverse(turned.Pods)
	for _, given := range []api.State{first(), used, turned, {}} {
		s := given
		s.Pods = slices.Clone(given.Pods)
		for pod := 10; pod < 20; pod++ {
			for over := 10; over < 20; over++ {
				if May(s, pod, over) != May(s, pod, over) || Check(s, preempt(pod, over)) != Check(s, preempt(pod, over)) {
					t.Errorf("%d over %d is told in two ways", pod, over)
				}
			}
			for node := range 5 {
				if one, two := Victims(s, pod, node), Victims(s, pod, node); !slices.Equal(one, two) {
					t.Errorf("%v, and then %v", one, two)
				}
			}
		}
		if !reflect.DeepEqual(s, given) {
			t.Errorf("of %v came %v", given, s)
		}
	}
}

// What is told is new memory: a list that is changed changes no other one.
func TestEachListIsNew(t *testing.T) { // R2
	s := first()
	one, two := Victims(s, 14, 1), Victims(s, 14, 1)
	for i := range one[:cap(one)] {
		one[:cap(one)][i] = 77
	}
	if !slices.Equal(two, []int{16, 12, 15, 11}) || !reflect.DeepEqual(s, first()) {
		t.Errorf("the other list became %v, the state %v", two, s)
	}
	victims(t, "once more", s, 14, 1, 16, 12, 15, 11)
}

// What lies behind a list's end, within its memory, is neither looked at nor
// changed.
func TestWhatLiesBehindAList(t *testing.T) { // P10.1, R2
	s := first()
	s.Pods = s.Pods[:4]
	victims(t, "pods behind", s, 14, 1, 12, 11)
	victims(t, "pods behind", s, 18, 1)
	may(t, "pods behind", s, 18, 11, false)
	may(t, "pods behind", s, 11, 16, false)
	if !reflect.DeepEqual(s.Pods[:8], first().Pods) {
		t.Errorf("the pods behind became %v", s.Pods[:8])
	}
}
