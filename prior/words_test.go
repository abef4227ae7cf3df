package prior

import (
	"maps"
	"math"
	"math/big"
	"slices"
	"testing"

	"dunnage/api"
	"dunnage/state"
)

// The chapter's words, once more, by Prios: the pods at a node are laid on
// heaps, one for each Prio, and the heaps of those Prios that are less are
// taken up, the least one first.

// prioByWords is the Prio of the first pod of an Id, in a number without
// bounds; nil: there is none.
func prioByWords(t api.State, id int) *big.Int {
	var prio *big.Int
	for i := len(t.Pods) - 1; i >= 0; i-- {
		if t.Pods[i].Id == id {
			prio = big.NewInt(int64(t.Pods[i].Prio))
		}
	}
	return prio
}

func mayByWords(t api.State, pod, over int) bool {
	p, o := prioByWords(t, pod), prioByWords(t, over)
	return p != nil && o != nil && new(big.Int).Sub(p, o).Sign() > 0
}

func checkByWords(t api.State, m api.Move) error {
	if m.Kind != 4 || mayByWords(t, m.Pod, m.Over) {
		return nil
	}
	return api.ErrPrio
}

func victimsByWords(t api.State, pod, node int) []int {
	prio := prioByWords(t, pod)
	if prio == nil || node == 0 {
		return nil
	}
	heaps := map[int][]int{}
	for _, p := range t.Pods {
		if p.Node == node {
			heaps[p.Prio] = append(heaps[p.Prio], p.Id)
		}
	}
	var l []int
	for _, less := range slices.Sorted(maps.Keys(heaps)) {
		if prio.Cmp(big.NewInt(int64(less))) > 0 {
			l = append(l, slices.Sorted(slices.Values(heaps[less]))...)
		}
	}
	return l
}

// count is how often each answer was due.
type count struct {
	may  map[bool]int // of two that are there
	many map[int]int  // of victims
}

// againstTheWords holds all calls against the words, of all Ids and nodes that
// are drawn, and some more.
func againstTheWords(t *testing.T, s api.State, c count) {
	t.Helper()
	for pod := -2; pod <= api.MaxPods+1; pod++ {
		for over := -2; over <= api.MaxPods+1; over++ {
			due := mayByWords(s, pod, over)
			if May(s, pod, over) != due {
				t.Fatalf("May(%v, %d, %d): %v", s, pod, over, !due)
			}
			if prioByWords(s, pod) != nil && prioByWords(s, over) != nil {
				c.may[due]++
			}
			kind := 1 + (pod+over+4)%5
			for _, m := range []api.Move{{Kind: 4, Pod: pod, Over: over}, {Kind: kind, Pod: pod, Node: 1, Over: over}} {
				if err, due := Check(s, m), checkByWords(s, m); err != due {
					t.Fatalf("Check(%v, %v): %v, want %v", s, m, err, due)
				}
			}
		}
		for node := -2; node < 5; node++ {
			due := victimsByWords(s, pod, node)
			if l := Victims(s, pod, node); !slices.Equal(l, due) {
				t.Fatalf("Victims(%v, %d, %d): %v, want %v", s, pod, node, l, due)
			}
			c.many[len(due)]++
		}
	}
}

// enough holds that each answer was due often enough for its test to mean
// anything: up to so many victims.
func enough(t *testing.T, c count, most int) {
	t.Helper()
	for _, due := range []bool{false, true} {
		if c.may[due] < 1_000 {
			t.Errorf("May: %v was due %d times", due, c.may[due])
		}
	}
	for many := range most + 1 {
		if c.many[many] < 20 {
			t.Errorf("%d victims were due %d times", many, c.many[many])
		}
	}
}

// All states of up to four pods, each of one of three Prios, at one of two
// nodes, or nowhere, their Ids rising or falling.
func TestAllSmallStates(t *testing.T) { // P10.1
	c := count{map[bool]int{}, map[int]int{}}
	all := 1
	for pods := range 5 {
		for number := range all {
			var s api.State
			for i, rest := 0, number; i < pods; i, rest = i+1, rest/9 {
				s.Pods = append(s.Pods, api.Pod{Id: 1 + i, Prio: rest % 3, Node: rest % 9 / 3})
			}
			againstTheWords(t, s, c)
			if number%4 == 0 {
				slices.Reverse(s.Pods)
				againstTheWords(t, s, c)
			}
		}
		all *= 9
	}
	enough(t, c, 3)
}

// drawing is a fixed order of numbers that looks like none.
type drawing uint64

func (d *drawing) below(n int) int {
	*d = *d*6364136223846793005 + 1442695040888963407
	return int(*d>>33) % n
}

// state draws pods; of wild draws Ids are there twice, or 0, or below, and in
// no order, Nodes are below 0, and Prios anything.
func (d *drawing) state(wild bool) api.State {
	t := api.State{Preempts: d.below(4), Shifts: d.below(4)}
	nodes := 2 + d.below(3)
	span := 1 + d.below(6)
	for i := range d.below(api.MaxPods + 1) {
		p := api.Pod{Id: i + 1, Load: 1 + d.below(3), Prio: d.below(span), Node: d.below(nodes)}
		if wild {
			p.Id, p.Node, p.Prio = d.below(14)-2, d.below(6)-2, d.below(span)-2
			if d.below(4) == 0 {
				p.Prio = []int{math.MinInt, math.MinInt + 1, math.MaxInt - 1, math.MaxInt}[d.below(4)]
			}
		}
		t.Pods = append(t.Pods, p)
	}
	return t
}

// shuffled is the state with its pods in another order.
func (d *drawing) shuffled(t api.State) api.State {
	t.Pods = slices.Clone(t.Pods)
	for i := range t.Pods {
		k := d.below(i + 1)
		t.Pods[i], t.Pods[k] = t.Pods[k], t.Pods[i]
	}
	return t
}

func TestAgainstTheWords(t *testing.T) { // P10.1
	var d drawing
	c := count{map[bool]int{}, map[int]int{}}
	for i := range 6_000 {
		s := d.state(i%3 == 0)
		if i%3 == 1 {
			s = d.shuffled(s)
		}
		againstTheWords(t, s, c)
	}
	enough(t, c, 6)
}

// Where each Id is there once, the order of the pods is nothing to it, and all
// calls are of one mind: those at a node that may go are its victims.
func TestAllCallsAreOfOneMind(t *testing.T) { // P10.1
	var d drawing
	for range 4_000 {
		s := d.state(false)
		other := d.shuffled(s)
		for _, p := range s.Pods {
			for node := range 5 {
				l := Victims(s, p.Id, node)
				if !slices.Equal(l, Victims(other, p.Id, node)) {
					t.Fatalf("%v and %v: of pod %d at %d there are other victims", s, other, p.Id, node)
				}
				for _, q := range s.Pods {
					due := node != 0 && q.Node == node && May(s, p.Id, q.Id)
					if slices.Contains(l, q.Id) != due {
						t.Fatalf("%v: %v of pod %d at node %d, and pod %d", s, l, p.Id, node, q.Id)
					}
				}
			}
		}
	}
}

// None goes for itself; of two at most one may go for the other; and one that
// may go for one that may go for a third one may go for that.
func TestWhoGoesForWhom(t *testing.T) { // P10.2
	var d drawing
	for i := range 3_000 {
		s := d.state(i%3 == 0)
		for _, p := range s.Pods {
			if May(s, p.Id, p.Id) || Check(s, preempt(p.Id, p.Id)) == nil {
				t.Fatalf("%v: pod %d goes for itself", s, p.Id)
			}
			for _, q := range s.Pods {
				if May(s, p.Id, q.Id) && May(s, q.Id, p.Id) {
					t.Fatalf("%v: pods %d and %d go for each other", s, p.Id, q.Id)
				}
				if Check(s, preempt(p.Id, q.Id)) == nil && Check(s, preempt(q.Id, p.Id)) == nil {
					t.Fatalf("%v: pods %d and %d make each other go", s, p.Id, q.Id)
				}
				for _, r := range s.Pods {
					if May(s, p.Id, q.Id) && May(s, q.Id, r.Id) && !May(s, p.Id, r.Id) {
						t.Fatalf("%v: %d, %d, %d", s, p.Id, q.Id, r.Id)
					}
				}
			}
		}
	}
}

// Of one that is nowhere each victim at a node can be made to go by a Preempt
// that layer 5 makes and Check finds no fault with; of the others at the node,
// none.
func TestPreemptsOfVictims(t *testing.T) { // P10.1
	s := yard()
	made := 0
	for _, p := range s.Pods {
		for _, n := range s.Nodes {
			l := Victims(state.First(s), p.Id, n.Id)
			for _, q := range s.Pods {
				m := api.Move{Kind: api.Preempt, Pod: p.Id, Node: n.Id, Over: q.Id}
				if _, err := state.Make(s, api.Spec{}, state.First(s), m); err != nil {
					continue
				}
				made++
				if (Check(state.First(s), m) == nil) != slices.Contains(l, q.Id) {
					t.Errorf("%v, and the victims are %v", m, l)
				}
			}
		}
	}
	if made != 2*6 {
		t.Errorf("%d Preempts can be made", made)
	}
}
