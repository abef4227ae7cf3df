package spread

import (
	"reflect"
	"slices"
	"testing"

	"dunnage/api"
	"dunnage/state"
)

// The chapter's words, once more, from the zones' side: each node's pods are
// listed, and a zone's are those of its nodes.

// podsAtByWords are the pods of a load at the node that stands at this place.
// Of nodes of one Id the first one alone has pods; at Node 0 there is none.
func podsAtByWords(s api.Snapshot, t api.State, load, place int) []api.Pod {
	id := s.Nodes[place].Id
	if id == 0 || slices.ContainsFunc(s.Nodes[:place], func(n api.Node) bool { return n.Id == id }) {
		return nil
	}
	return slices.DeleteFunc(slices.Clone(t.Pods), func(p api.Pod) bool { return p.Node != id || p.Load != load })
}

func countByWords(s api.Snapshot, t api.State, load, zone int) int {
	var there []api.Pod
	for place, n := range s.Nodes {
		if n.Zone == zone {
			there = append(there, podsAtByWords(s, t, load, place)...)
		}
	}
	return len(there)
}

// skewByWords is the greatest of what any zone has more than any other one.
func skewByWords(s api.Snapshot, t api.State, load int) int {
	var each []int
	for _, n := range s.Nodes {
		each = append(each, countByWords(s, t, load, n.Zone))
	}
	skew := 0
	for _, one := range each {
		for _, other := range each {
			skew = max(skew, one-other)
		}
	}
	return skew
}

func checkByWords(s api.Snapshot, t api.State) error {
	for i := range s.Loads {
		if skew := s.Loads[i].Skew; skew > 0 && skewByWords(s, t, s.Loads[i].Id) > skew {
			return &api.Spot{At: i, Err: api.ErrSpread}
		}
	}
	return nil
}

// againstTheWords holds all calls against the words, and what follows of them;
// it tells the place that was due, -1 of none.
func againstTheWords(t *testing.T, s api.Snapshot, state api.State) int {
	t.Helper()
	for load := -2; load < 6; load++ {
		for zone := -2; zone < 6; zone++ {
			if count, want := Count(s, state, load, zone), countByWords(s, state, load, zone); count != want {
				t.Fatalf("Count(%v, %v, %d, %d): %d, want %d", s, state, load, zone, count, want)
			}
		}
		if skew, want := Skew(s, state, load), skewByWords(s, state, load); skew != want {
			t.Fatalf("Skew(%v, %v, %d): %d, want %d", s, state, load, skew, want)
		}
		allTogether(t, s, state, load)
	}
	err, want := Check(s, state), checkByWords(s, state)
	if !reflect.DeepEqual(err, want) {
		t.Fatalf("Check(%v, %v): %v, want %v", s, state, err, want)
	}
	if spot, ok := want.(*api.Spot); ok {
		return spot.At
	}
	return -1
}

// allTogether holds that all counts of a load are how many pods of it are at
// nodes that there are.
func allTogether(t *testing.T, s api.Snapshot, state api.State, load int) { // P8.2
	t.Helper()
	there := 0
	for _, p := range state.Pods {
		if p.Load == load && p.Node != 0 && slices.ContainsFunc(s.Nodes, func(n api.Node) bool { return n.Id == p.Node }) {
			there++
		}
	}
	sum := 0
	for zone := -2; zone < 6; zone++ {
		sum += Count(s, state, load, zone)
	}
	if sum != there {
		t.Fatalf("%v, %v: all counts of load %d together are %d, of %d pods", s, state, load, sum, there)
	}
}

// All states of up to four pods, each of one of two loads, at one of four
// nodes, of which one isn't there, or nowhere.
func TestAllSmallStates(t *testing.T) { // P8.1, P8.2
	s := api.Snapshot{
		Nodes: []api.Node{{Id: 1, Zone: 4}, {Id: 2, Zone: 1}, {Id: 3, Zone: 4}},
		Loads: []api.Load{{Id: 1, Skew: 2}, {Id: 2, Skew: 1}},
	}
	told := map[int]int{}
	all := 1
	for many := range 5 {
		for number := range all {
			state := api.State{}
			for i, rest := 0, number; i < many; i, rest = i+1, rest/10 {
				state.Pods = append(state.Pods, api.Pod{Id: 11 + i, Load: 1 + rest%2, Node: rest % 10 / 2})
			}
			told[againstTheWords(t, s, state)]++
		}
		all *= 10
	}
	for place := -1; place < 2; place++ {
		if many := told[place]; many < 90 {
			t.Errorf("place %d was told %d times", place, many)
		}
	}
}

// drawing is a fixed order of numbers that looks like none.
type drawing uint64

func (d *drawing) below(n int) int {
	*d = *d*6364136223846793005 + 1442695040888963407
	return int(*d>>33) % n
}

// cluster draws nodes, loads and pods; of wild draws Ids are there twice, or 0,
// or below, and in no order.
func (d *drawing) cluster(wild bool) (api.Snapshot, api.State) {
	var s api.Snapshot
	var t api.State
	zones := 1 + d.below(4)
	for i := range d.below(6) {
		n := api.Node{Id: i + 1, Zone: 1 + d.below(zones)}
		if wild {
			n.Id, n.Zone = d.below(7)-1, d.below(6)-1
		}
		s.Nodes = append(s.Nodes, n)
	}
	for i := range d.below(5) {
		l := api.Load{Id: i + 1, Skew: d.below(4)}
		if wild {
			l.Id, l.Skew = d.below(6)-1, d.below(5)-1
		}
		s.Loads = append(s.Loads, l)
	}
	most := 1 + d.below(5) // many pods are of this load, so that loads at later places are at fault alone
	for i := range d.below(api.MaxPods + 1) {
		p := api.Pod{Id: i + 1, Load: []int{most, 1 + d.below(5)}[d.below(2)], Prio: d.below(3), Node: d.below(6)}
		if wild {
			p.Id, p.Load, p.Node = d.below(8)-1, d.below(6)-1, d.below(7)-1
		}
		t.Pods = append(t.Pods, p)
	}
	return s, t
}

func TestAgainstTheWords(t *testing.T) { // P8.1, P8.2
	var d drawing
	told := map[int]int{}
	for i := range 60_000 {
		s, state := d.cluster(i%4 == 0)
		told[againstTheWords(t, s, state)]++
	}
	for place := -1; place < 4; place++ {
		if many := told[place]; many < 100 {
			t.Errorf("place %d was told %d times", place, many)
		}
	}
}

// A move of one pod changes a skew by 2 at most: a Shift takes it from the
// greatest zone to the least one. A move of whatever kind does no more.
func TestAMoveChangesASkewBy2AtMost(t *testing.T) { // P8.2
	var d drawing
	told := map[[2]int]int{}
	for range 6_000 {
		s, from := d.cluster(false)
		for _, m := range d.someMoves(from) {
			behind, err := state.Make(s, api.Spec{}, from, m)
			if err != nil {
				continue
			}
			for load := range 6 {
				change := Skew(s, behind, load) - Skew(s, from, load)
				if change < -2 || change > 2 {
					t.Fatalf("%v, %v: %v changes the skew of load %d by %d", s, from, m, load, change)
				}
				told[[2]int{m.Kind, change}]++
			}
		}
	}
	for _, due := range [][2]int{
		{api.Place, -1}, {api.Place, 0}, {api.Place, 1}, {api.Evict, -1}, {api.Evict, 1},
		{api.Shift, -2}, {api.Shift, -1}, {api.Shift, 1}, {api.Shift, 2}, {api.Preempt, -1}, {api.Preempt, 1},
	} {
		if told[due] < 100 {
			t.Errorf("a move of kind %d changed a skew by %d %d times", due[0], due[1], told[due])
		}
	}
}

// someMoves draws moves of each pod, of which some can be made.
func (d *drawing) someMoves(t api.State) []api.Move {
	var l []api.Move
	for _, p := range t.Pods {
		node := 1 + d.below(5)
		l = append(l,
			api.Move{Kind: api.Place, Pod: p.Id, Node: node},
			api.Move{Kind: api.Evict, Pod: p.Id},
			api.Move{Kind: api.Shift, Pod: p.Id, Node: node},
			api.Move{Kind: api.Preempt, Pod: p.Id, Node: node, Over: 1 + d.below(len(t.Pods))},
		)
	}
	return l
}
