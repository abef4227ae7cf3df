package apart

import (
	"reflect"
	"slices"
	"testing"

	"dunnage/api"
)

// The chapter's words, once more, by heaps: the places of all pods that are of
// one load at one node are laid on one heap, and those of a heap that may not
// be together clash.

type heaps map[loadAndNode][]int

func heapsByWords(t api.State) heaps {
	h := heaps{}
	for i, p := range t.Pods {
		key := loadAndNode{p.Load, p.Node}
		h[key] = append(h[key], i)
	}
	return h
}

func mayNotBeTogether(s api.Snapshot, at loadAndNode) bool {
	if at.node == 0 {
		return false
	}
	i := slices.IndexFunc(s.Loads, func(l api.Load) bool { return l.Id == at.load })
	return i >= 0 && s.Loads[i].Apart
}

func clashByWords(s api.Snapshot, t api.State, pod int) int {
	i := slices.IndexFunc(t.Pods, func(p api.Pod) bool { return p.Id == pod })
	if i < 0 {
		return 0
	}
	at := loadAndNode{t.Pods[i].Load, t.Pods[i].Node}
	others := slices.DeleteFunc(heapsByWords(t)[at], func(k int) bool { return k == i })
	if len(others) == 0 || !mayNotBeTogether(s, at) {
		return 0
	}
	return t.Pods[slices.Min(others)].Id
}

// checkByWords tells the first of the seconds of all heaps.
func checkByWords(s api.Snapshot, t api.State) error {
	place := len(t.Pods)
	for at, heap := range heapsByWords(t) {
		if len(heap) > 1 && mayNotBeTogether(s, at) {
			place = min(place, heap[1])
		}
	}
	if place == len(t.Pods) {
		return nil
	}
	return &api.Spot{At: place, Err: api.ErrApart}
}

// againstTheWords holds both calls against the words, and what follows of
// them; it tells the place that was due, -1 of none.
func againstTheWords(t *testing.T, s api.Snapshot, state api.State) int {
	t.Helper()
	for pod := -1; pod < 18; pod++ {
		if id, want := Clash(s, state, pod), clashByWords(s, state, pod); id != want {
			t.Fatalf("Clash(%v, %v, %d): %d, want %d", s, state, pod, id, want)
		}
	}
	err, want := Check(s, state), checkByWords(s, state)
	if !reflect.DeepEqual(err, want) {
		t.Fatalf("Check(%v, %v): %v, want %v", s, state, err, want)
	}
	if spot, ok := want.(*api.Spot); ok {
		return spot.At
	}
	withAPodLess(t, s, state)
	return -1
}

// withAPodLess holds that where none clashes none does without any one pod
// too.
func withAPodLess(t *testing.T, s api.Snapshot, state api.State) { // P7.2
	t.Helper()
	for i, p := range state.Pods {
		less := api.State{Pods: slices.Delete(slices.Clone(state.Pods), i, i+1)}
		if err := Check(s, less); err != nil {
			t.Fatalf("%v, %v without %v: %v", s, state, p, err)
		}
		for _, q := range less.Pods {
			if id := Clash(s, less, q.Id); id != 0 {
				t.Fatalf("%v, %v without %v: %v clashes with %d", s, state, p, q, id)
			}
		}
	}
}

// All states of up to four pods, each of one of four loads, at one of three
// nodes or nowhere.
func TestAllSmallStates(t *testing.T) { // P7.1, P7.2
	s := yard()
	told := map[int]int{}
	for many := range 5 {
		for number := range 1 << (4 * many) {
			state := api.State{}
			for i := range many {
				load, node := number>>(4*i)&3, number>>(4*i+2)&3
				state.Pods = append(state.Pods, api.Pod{Id: 11 + i, Load: 5 + load, Node: node})
			}
			told[againstTheWords(t, s, state)]++
		}
	}
	for place := -1; place < 4; place++ {
		if many := told[place]; many < 90 && place != 0 {
			t.Errorf("place %d was told %d times", place, many)
		}
	}
}

// drawing is a fixed order of numbers that looks like none.
type drawing uint64

func (d *drawing) below(n int) int {
	*d = *d*6364136223846793005 + 1442695040888963407
	return int(*d>>33) % n
}

// cluster draws loads and pods; of wild draws Ids are there twice, or 0, or
// below, and in no order.
func (d *drawing) cluster(wild bool) (api.Snapshot, api.State) {
	var s api.Snapshot
	var t api.State
	for i := range d.below(5) {
		l := api.Load{Id: i + 1, Apart: d.below(4) > 0}
		if wild {
			l.Id = d.below(6) - 1
		}
		s.Loads = append(s.Loads, l)
	}
	nodes := 2 + d.below(9)
	for i := range d.below(api.MaxPods + 1) {
		p := api.Pod{Id: i + 1, Load: 1 + d.below(5), Prio: d.below(3), Node: d.below(nodes)}
		if wild {
			p.Id, p.Load, p.Node = d.below(8)-1, d.below(6)-1, d.below(nodes)-1
		}
		t.Pods = append(t.Pods, p)
	}
	return s, t
}

func TestAgainstTheWords(t *testing.T) { // P7.1, P7.2
	var d drawing
	told := map[int]int{}
	for i := range 60_000 {
		s, state := d.cluster(i%4 == 0)
		told[againstTheWords(t, s, state)]++
	}
	for place := -1; place < api.MaxPods; place++ {
		if many := told[place]; many < 100 && place != 0 {
			t.Errorf("place %d was told %d times", place, many)
		}
	}
}

// Where none clashes Check tells nothing, and else Check tells the first pod
// that has a clash ahead of it: so both calls are of one mind.
func TestBothCallsAreOfOneMind(t *testing.T) { // P7.1
	var d drawing
	for range 20_000 {
		s, state := d.cluster(false)
		place := slices.IndexFunc(state.Pods, func(p api.Pod) bool {
			id := Clash(s, state, p.Id)
			return id != 0 && id < p.Id // the Ids rise
		})
		if err := Check(s, state); (err != nil) != (place >= 0) {
			t.Fatalf("%v, %v: %v, and the first clash is at %d", s, state, err, place)
		} else if spot, ok := err.(*api.Spot); ok && spot.At != place {
			t.Fatalf("%v, %v: %v, and the first clash is at %d", s, state, err, place)
		}
	}
}
