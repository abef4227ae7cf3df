package budget

import (
	"cmp"
	"math/big"
	"reflect"
	"slices"
	"testing"

	"dunnage/api"
	"dunnage/state"
)

// The chapter's words, once more, from the pods' side: those that are nowhere
// are taken away, and each of the rest is told off to its load.

// somewhereByWords is, of each load, how many of its pods are left when those
// that are nowhere are taken away.
func somewhereByWords(t api.State) map[int]int {
	left := slices.DeleteFunc(slices.Clone(t.Pods), func(p api.Pod) bool { return p.Node == 0 })
	each := map[int]int{}
	for _, p := range left {
		each[p.Load]++
	}
	return each
}

// checkByWords lists all faults, too few ahead of too many, and tells the one
// of the least place.
func checkByWords(s api.Snapshot, t api.State) error {
	each := somewhereByWords(t)
	var faults []*api.Spot
	for i := range s.Loads {
		if s.Loads[i].Min > each[s.Loads[i].Id] {
			faults = append(faults, &api.Spot{At: i, Err: api.ErrFew})
		}
	}
	for i := range s.Loads {
		if s.Loads[i].Max < each[s.Loads[i].Id] {
			faults = append(faults, &api.Spot{At: i, Err: api.ErrMany})
		}
	}
	slices.SortStableFunc(faults, func(a, b *api.Spot) int { return cmp.Compare(a.At, b.At) })
	if len(faults) == 0 {
		return nil
	}
	return faults[0]
}

// usedByWords asks, in numbers without bounds, whether what is left of either
// budget is below 0.
func usedByWords(x api.Spec, t api.State) error {
	for _, b := range [][2]int{{x.Preempts, t.Preempts}, {x.Shifts, t.Shifts}} {
		left := new(big.Int).Sub(big.NewInt(int64(b[0])), big.NewInt(int64(b[1])))
		if left.Sign() < 0 {
			return api.ErrBudget
		}
	}
	return nil
}

// told is what Check told: a place and a fault; place -1: none.
type told struct {
	place int
	fault api.Code
}

// againstTheWords holds all calls against the words; it tells what was due of
// Check.
func againstTheWords(t *testing.T, s api.Snapshot, x api.Spec, state api.State) told {
	t.Helper()
	each := somewhereByWords(state)
	for load := -2; load < 8; load++ {
		if size := Size(state, load); size != each[load] {
			t.Fatalf("Size(%v, %d): %d, want %d", state, load, size, each[load])
		}
	}
	if err, want := Used(x, state), usedByWords(x, state); err != want {
		t.Fatalf("Used(%v, %v): %v, want %v", x, state, err, want)
	}
	err, want := Check(s, state), checkByWords(s, state)
	if !reflect.DeepEqual(err, want) {
		t.Fatalf("Check(%v, %v): %v, want %v", s, state, err, want)
	}
	if spot, ok := want.(*api.Spot); ok {
		return told{spot.At, spot.Err}
	}
	return told{place: -1}
}

// All states of up to four pods, each of one of three loads, of which one isn't
// there, at one of two nodes, or nowhere.
func TestAllSmallStates(t *testing.T) { // P9.1
	s := api.Snapshot{Loads: []api.Load{{Id: 1, Max: 2}, {Id: 2, Min: 1, Max: 1}}}
	many := map[told]int{}
	all := 1
	for pods := range 5 {
		for number := range all {
			state := api.State{Preempts: number % 3, Shifts: number / 3 % 3}
			for i, rest := 0, number; i < pods; i, rest = i+1, rest/9 {
				state.Pods = append(state.Pods, api.Pod{Id: 11 + i, Load: 1 + rest%3, Node: rest % 9 / 3})
			}
			many[againstTheWords(t, s, api.Spec{Preempts: 1, Shifts: 1}, state)]++
		}
		all *= 9
	}
	for _, due := range []told{{place: -1}, {0, api.ErrMany}, {1, api.ErrFew}, {1, api.ErrMany}} {
		if many[due] < 90 {
			t.Errorf("%v was told %d times", due, many[due])
		}
	}
}

// drawing is a fixed order of numbers that looks like none.
type drawing uint64

func (d *drawing) below(n int) int {
	*d = *d*6364136223846793005 + 1442695040888963407
	return int(*d>>33) % n
}

// cluster draws nodes, loads and pods; of wild draws Ids are there twice, or 0,
// or below, and in no order, and bounds are below 0, or Min is above Max.
func (d *drawing) cluster(wild bool) (api.Snapshot, api.Spec, api.State) {
	var s api.Snapshot
	for i := range 1 + d.below(4) {
		s.Nodes = append(s.Nodes, api.Node{Id: i + 1, Zone: 1 + d.below(3)})
	}
	for i := range d.below(6) {
		least := d.below(3)
		l := api.Load{Id: i + 1, Min: least, Max: least + d.below(4)}
		if wild {
			l.Id, l.Min, l.Max = d.below(7)-1, d.below(5)-1, d.below(6)-1
		}
		s.Loads = append(s.Loads, l)
	}
	t := api.State{Preempts: d.below(4), Shifts: d.below(4)}
	for i := range d.below(api.MaxPods + 1) {
		p := api.Pod{Id: i + 1, Load: 1 + d.below(6), Prio: d.below(3), Node: d.below(len(s.Nodes) + 1)}
		if wild {
			p.Id, p.Load, p.Node = d.below(8)-1, d.below(7)-1, d.below(7)-1
		}
		t.Pods = append(t.Pods, p)
	}
	return s, api.Spec{Preempts: d.below(4), Shifts: d.below(4)}, t
}

func TestAgainstTheWords(t *testing.T) { // P9.1
	var d drawing
	many := map[told]int{}
	for i := range 60_000 {
		s, x, state := d.cluster(i%4 == 0)
		many[againstTheWords(t, s, x, state)]++
	}
	dues := []told{{place: -1}}
	for place := range 4 {
		dues = append(dues, told{place, api.ErrFew}, told{place, api.ErrMany})
	}
	for _, due := range dues {
		if many[due] < 100 {
			t.Errorf("%v was told %d times", due, many[due])
		}
	}
}

// An Evict makes its pod's load less by one, a Place makes it more, a Shift
// makes none other. A Preempt is the two together. Of the budgets a Shift
// uses one, and a Preempt one of its own.
func TestWhatAMoveChanges(t *testing.T) { // P9.2
	var d drawing
	many := map[int]int{}
	for range 6_000 {
		s, x, from := d.cluster(false)
		for _, m := range d.someMoves(s, from) {
			behind, err := state.Make(s, x, from, m)
			if err != nil {
				continue
			}
			many[m.Kind]++
			for load := range 8 {
				change := Size(behind, load) - Size(from, load)
				if due := changeByWords(from, m, load); change != due {
					t.Fatalf("%v: %v changes the size of load %d by %d, want %d", from, m, load, change, due)
				}
			}
			justUsed(t, from, behind, m)
		}
	}
	for kind := api.Place; kind <= api.Preempt; kind++ {
		if many[kind] < 500 {
			t.Errorf("moves of kind %d were made %d times", kind, many[kind])
		}
	}
}

// changeByWords is by how much a move that can be made makes a load more.
func changeByWords(from api.State, m api.Move, load int) int {
	change := map[int]int{}
	pod, _ := state.Pod(from, m.Pod)
	switch m.Kind {
	case api.Place:
		change[pod.Load]++
	case api.Evict:
		change[pod.Load]--
	case api.Preempt:
		over, _ := state.Pod(from, m.Over)
		change[pod.Load]++
		change[over.Load]--
	}
	return change[load]
}

// justUsed holds that budgets that were just used up ahead of a move are above
// their end behind it, if it is one that uses them.
func justUsed(t *testing.T, from, behind api.State, m api.Move) {
	t.Helper()
	end := api.Spec{Preempts: from.Preempts, Shifts: from.Shifts}
	var due error
	if m.Kind == api.Shift || m.Kind == api.Preempt {
		due = api.ErrBudget
	}
	if err := Used(end, behind); err != due {
		t.Fatalf("%v: Used behind %v: %v, want %v", from, m, err, due)
	}
	if m.Kind == api.Shift {
		end.Shifts++
	} else {
		end.Preempts++
	}
	if err := Used(end, behind); err != nil {
		t.Fatalf("%v: Used behind %v, with one more: %v", from, m, err)
	}
}

// someMoves draws moves of each pod, of which some can be made.
func (d *drawing) someMoves(s api.Snapshot, t api.State) []api.Move {
	var l []api.Move
	for _, p := range t.Pods {
		node := 1 + d.below(len(s.Nodes))
		l = append(l,
			api.Move{Kind: api.Place, Pod: p.Id, Node: node},
			api.Move{Kind: api.Evict, Pod: p.Id},
			api.Move{Kind: api.Shift, Pod: p.Id, Node: node},
			api.Move{Kind: api.Preempt, Pod: p.Id, Node: node, Over: 1 + d.below(len(t.Pods))},
		)
	}
	return l
}

// Every load of the yard, one move of each kind told by hand.
func TestMovesOfTheYard(t *testing.T) { // P9.2
	s, x := yard(), api.Spec{Preempts: 1, Shifts: 1}
	for _, c := range []struct {
		name   string
		m      api.Move
		sizes  [4]int // of loads 5, 6, 8, 9
		spot   *api.Spot
		budget error // where both budgets are 0
	}{
		{"Place", api.Move{Kind: api.Place, Pod: 14, Node: 4}, [4]int{3, 2, 0, 0}, nil, nil},
		{"Place, too many", api.Move{Kind: api.Place, Pod: 18, Node: 4}, [4]int{2, 2, 0, 1}, &api.Spot{At: 3, Err: api.ErrMany}, nil},
		{"Evict", api.Move{Kind: api.Evict, Pod: 11}, [4]int{1, 2, 0, 0}, nil, nil},
		{"Evict, too few", api.Move{Kind: api.Evict, Pod: 13}, [4]int{2, 1, 0, 0}, &api.Spot{At: 1, Err: api.ErrFew}, nil},
		{"Shift", api.Move{Kind: api.Shift, Pod: 13, Node: 3}, [4]int{2, 2, 0, 0}, nil, api.ErrBudget},
		{"Preempt", api.Move{Kind: api.Preempt, Pod: 16, Node: 1, Over: 11}, [4]int{1, 2, 1, 0}, nil, api.ErrBudget},
		{"Preempt of its own load", api.Move{Kind: api.Preempt, Pod: 17, Node: 1, Over: 15}, [4]int{2, 2, 0, 0}, nil, api.ErrBudget},
	} {
		t.Run(c.name, func(t *testing.T) {
			behind, err := state.Make(s, x, state.First(s), c.m)
			if err != nil {
				t.Fatal(err)
			}
			for i, load := range []int{5, 6, 8, 9} {
				sized(t, c.name, behind, load, c.sizes[i])
			}
			if c.spot == nil {
				fine(t, c.name, s, behind)
			} else {
				faulty(t, c.name, s, behind, c.spot.At, c.spot.Err)
			}
			used(t, x, behind, nil)
			used(t, api.Spec{}, behind, c.budget)
		})
	}
}
