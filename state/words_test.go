package state

import (
	"reflect"
	"slices"
	"testing"

	"dunnage/api"
)

// The chapter's words, once more: a row of its table for each kind of move,
// with all that it asks, as conditions that are looked at one by one.

// row is a kind of move, as the table tells it.
type row struct {
	zeros  []int  // what is to be 0
	node   bool   // the pod comes to Node
	over   bool   // Over is one that has to be there
	can    []bool // all of them hold, if it can be made
	shifts int
	preem  int
}

// atByWords is the first pod of an Id: its place, and whether it is there.
func atByWords(pods []api.Pod, id int) (int, bool) {
	for i := len(pods) - 1; i >= 0; i-- {
		if pods[i].Id == id && !slices.ContainsFunc(pods[:i], func(p api.Pod) bool { return p.Id == id }) {
			return i, true
		}
	}
	return 0, false
}

func nodeByWords(s api.Snapshot, id int) bool {
	found := false
	for _, n := range s.Nodes {
		found = found || n.Id == id
	}
	return found
}

// rowByWords is the table's row of a move; nil: there is none.
func rowByWords(t api.State, m api.Move) *row {
	nodeOf := func(id int) int {
		i, ok := atByWords(t.Pods, id)
		if !ok {
			return 0
		}
		return t.Pods[i].Node
	}
	was := nodeOf(m.Pod)
	return map[int]*row{
		1: {zeros: []int{m.Over}, node: true, can: []bool{was == 0}},
		2: {zeros: []int{m.Node, m.Over}, can: []bool{was != 0}},
		3: {zeros: []int{m.Over}, node: true, can: []bool{was != 0, was != m.Node}, shifts: 1},
		4: {node: true, over: true, can: []bool{was == 0, m.Over != m.Pod, nodeOf(m.Over) == m.Node}, preem: 1},
	}[m.Kind]
}

// reqByWords is the Req of a pod that comes to a node.
func reqByWords(x api.Spec, p api.Pod) api.Vec {
	for _, w := range x.Wants {
		if w.Pod != p.Id {
			continue
		}
		if w.Stay {
			return w.Req
		}
		break
	}
	return p.Req
}

func makeByWords(s api.Snapshot, x api.Spec, t api.State, m api.Move) (api.State, error) {
	r := rowByWords(t, m)
	if r == nil || slices.ContainsFunc(r.zeros, func(n int) bool { return n != 0 }) {
		return api.State{}, api.ErrArg
	}
	pod, isPod := atByWords(t.Pods, m.Pod)
	over, isOver := atByWords(t.Pods, m.Over)
	if !isPod || r.node && !nodeByWords(s, m.Node) || r.over && !isOver {
		return api.State{}, api.ErrNone
	}
	if slices.Contains(r.can, false) {
		return api.State{}, api.ErrState
	}
	told := api.State{Preempts: t.Preempts + r.preem, Shifts: t.Shifts + r.shifts}
	for i, p := range t.Pods {
		if r.over && i == over {
			p.Node = 0
		}
		if i == pod {
			p.Node = 0
			if r.node {
				p.Node, p.Req = m.Node, reqByWords(x, p)
			}
		}
		told.Pods = append(told.Pods, p)
	}
	return told, nil
}

func goalByWords(x api.Spec, t api.State) bool {
	unmet := 0
	for _, w := range x.Wants {
		i, ok := atByWords(t.Pods, w.Pod)
		switch {
		case !ok:
			unmet++
		case w.Stay && (t.Pods[i].Node == 0 || t.Pods[i].Req != w.Req):
			unmet++
		case !w.Stay && t.Pods[i].Node != 0:
			unmet++
		}
	}
	return unmet == 0
}

// drawing is a fixed order of numbers that looks like none.
type drawing uint64

func (d *drawing) below(n int) int {
	*d = *d*6364136223846793005 + 1442695040888963407
	return int(*d>>33) % n
}

func (d *drawing) req() api.Vec { return api.Vec{uint64(d.below(2)), 0, 0, uint64(d.below(2))} }

// cluster draws a few nodes and pods with wants; where wild, Ids may be there
// twice, or be 0 or below.
func (d *drawing) cluster(wild bool) (api.Snapshot, api.Spec) {
	var s api.Snapshot
	var x api.Spec
	id := func(i int) int {
		if wild {
			return d.below(6) - 1
		}
		return i + 1
	}
	for i := range d.below(4) {
		s.Nodes = append(s.Nodes, api.Node{Id: id(i), Zone: 1})
	}
	for i := range d.below(6) {
		p := api.Pod{Id: id(i), Load: d.below(3), Prio: d.below(9), Req: d.req()}
		if len(s.Nodes) > 0 && d.below(2) > 0 {
			p.Node = s.Nodes[d.below(len(s.Nodes))].Id
		}
		s.Pods = append(s.Pods, p)
	}
	for i := range d.below(4) {
		w := api.Want{Pod: id(i), Stay: d.below(3) > 0}
		if w.Stay || wild {
			w.Req = d.req()
		}
		x.Wants = append(x.Wants, w)
	}
	return s, x
}

// move draws one, oftener one whose kind is there and that leaves 0 what is
// to be 0.
func (d *drawing) move() api.Move {
	m := api.Move{Kind: d.below(5), Pod: d.below(6), Node: d.below(5), Over: d.below(6)}
	if m.Kind == 0 {
		m.Kind = []int{-1, 0, 5, api.Preempt, api.Preempt}[d.below(5)]
	}
	if m.Kind == api.Evict && d.below(8) > 0 {
		m.Node = 0
	}
	if m.Kind != api.Preempt && d.below(8) > 0 {
		m.Over = 0
	}
	return m
}

// number is what is counted of an answer: 0, or its error.
func number(err error) api.Code {
	code, _ := err.(api.Code)
	return code
}

func TestAgainstTheWords(t *testing.T) { // P5.1 to P5.4, R1, R3
	var d drawing
	told, met := map[[2]int]int{}, map[bool]int{}
	for i := range 20_000 {
		s, x := d.cluster(i%4 == 0)
		state := First(s)
		alike(t, "first", state, api.State{Pods: s.Pods})
		for range 20 {
			m := d.move()
			was := cloneState(state)
			got, err := Make(s, x, state, m)
			want, wantErr := makeByWords(s, x, state, m)
			if err != wantErr || !reflect.DeepEqual(got, want) {
				t.Fatalf("Make(%v, %v, %v, %v): %v, %v, want %v, %v", s, x, state, m, got, err, want, wantErr)
			}
			if !reflect.DeepEqual(state, was) {
				t.Fatalf("Make(%v, %v, %v, %v): the state became %v", s, x, was, m, state)
			}
			told[[2]int{m.Kind, int(number(err))}]++
			if err != nil {
				continue
			}
			othersStay(t, state, got, m)
			state = got
			goal := Goal(x, state)
			if goal != goalByWords(x, state) {
				t.Fatalf("Goal(%v, %v): %v", x, state, goal)
			}
			met[goal]++
		}
	}
	for kind := api.Place; kind <= api.Preempt; kind++ {
		for _, code := range []api.Code{0, api.ErrArg, api.ErrNone, api.ErrState} {
			due := kind != api.Preempt || code != api.ErrArg // a Preempt has nothing that is to be 0
			if many := told[[2]int{kind, int(code)}]; due != (many >= 500) {
				t.Errorf("kind %d was told %v %d times", kind, code, many)
			}
		}
	}
	if met[true] < 500 || met[false] < 500 {
		t.Errorf("goals that were met, and not: %v", met)
	}
}

// othersStay holds all pods but Pod and Over against what they were; and what
// no move changes of any.
func othersStay(t *testing.T, ahead, behind api.State, m api.Move) {
	t.Helper()
	if len(ahead.Pods) != len(behind.Pods) {
		t.Fatalf("%v: %v became %v", m, ahead, behind)
	}
	for i, was := range ahead.Pods {
		is := behind.Pods[i]
		if was.Id != m.Pod && was.Id != m.Over && was != is {
			t.Errorf("%v: pod %v became %v", m, was, is)
		}
		if was.Id != is.Id || was.Load != is.Load || was.Prio != is.Prio {
			t.Errorf("%v: pod %v became %v", m, was, is)
		}
	}
}
