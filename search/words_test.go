package search

import (
	"fmt"
	"slices"
	"testing"

	"dunnage/api"
	"dunnage/cluster"
	"dunnage/safe"
	"dunnage/state"
	"dunnage/step"
)

// The chapter's words, once more: every row of moves is tried by layer 12, move
// by move, and behind each the wants are asked for by layer 5.

// every are all moves that the chapter counts: a Place or Shift of a pod to a
// node, an Evict of a pod, a Preempt of a pod at a node over a pod.
func every(s api.Snapshot) []api.Move {
	var l []api.Move
	for _, p := range s.Pods {
		l = append(l, evict(p.Id))
		for _, n := range s.Nodes {
			l = append(l, place(p.Id, n.Id), shift(p.Id, n.Id))
			for _, over := range s.Pods {
				l = append(l, preempt(p.Id, n.Id, over.Id))
			}
		}
	}
	return l
}

// rows is how many rows of less than so many moves there are, or, if there are
// too many, one more than MaxSteps.
func rows(s api.Snapshot, moves int) int {
	const most = api.MaxSteps + 1
	many, ofOne := 0, 1
	for range moves {
		many = min(many+ofOne, most)
		ofOne = min(ofOne*len(every(s)), most)
	}
	return many
}

// never is how many moves it takes where no plan has as few as were asked for.
const never = 1_000

// fewest is how many moves a plan has at least, if it has at most so many. Of
// states that come back only the first one is gone on from.
func fewest(s api.Snapshot, x api.Spec, most int) int {
	level := []api.State{state.First(s)}
	if !safe.Is(s, x, level[0]) {
		return never
	}
	was := map[string]bool{}
	for moves := range most + 1 {
		var next []api.State
		for _, t := range level {
			if state.Goal(x, t) {
				return moves
			}
			for _, m := range every(s) {
				behind, err := step.Do(s, x, t, m)
				if text := fmt.Sprint(behind); err == nil && !was[text] {
					was[text] = true
					next = append(next, behind)
				}
			}
		}
		level = next
	}
	return never
}

// fewestOfRows is the same, with nothing left out: each row is tried that has no
// more moves.
func fewestOfRows(s api.Snapshot, x api.Spec, t api.State, most int) int {
	if state.Goal(x, t) {
		return 0
	}
	least := never
	if most == 0 {
		return least
	}
	for _, m := range every(s) {
		if behind, err := step.Do(s, x, t, m); err == nil {
			least = min(least, 1+fewestOfRows(s, x, behind, most-1))
		}
	}
	return least
}

// count is how often each answer was due.
type count struct {
	kinds   map[int]int
	lengths map[int]int // of what was found, by how many moves it takes at least
	longer  int         // found with more moves than it takes at least
	moves   map[int]int // moves of what was found, by Kind
	short   int         // none, where one move more would do
}

func newCount() count {
	return count{kinds: map[int]int{}, lengths: map[int]int{}, moves: map[int]int{}}
}

// hold holds Plan against the words, for this depth and for as many steps as
// could tell, from none on.
func (c *count) hold(t *testing.T, s api.Snapshot, x api.Spec, depth, least int) {
	t.Helper()
	for _, steps := range []int{0, 1, 2, 3, 4, 5, 6, 7, 8, 9, 10, 12, 15, 20, 30, 50, 100, 300, 1_000, rows(s, depth), api.MaxSteps} {
		if steps > api.MaxSteps {
			continue // nothing is promised of so many
		}
		v := told(t, "drawn", s, x, depth, steps, least)
		c.kinds[v.Kind]++
		if v.Kind == api.Found {
			c.lengths[least]++
			if len(v.Moves) > least {
				c.longer++
			}
			for _, m := range v.Moves {
				c.moves[m.Kind]++
			}
		}
		if v.Kind == api.None && least == depth+1 {
			c.short++
		}
		if v.Kind != api.Spent && v.Steps < steps {
			return // more steps change nothing: they weren't asked for
		}
	}
}

// enough holds that each answer was due so often that its test means anything.
func (c *count) enough(t *testing.T, longest, longer, least int) {
	t.Helper()
	for _, kind := range []int{api.Found, api.None, api.Spent} {
		if c.kinds[kind] < least {
			t.Errorf("Kind %d was told %d times", kind, c.kinds[kind])
		}
	}
	for _, kind := range []int{api.Place, api.Evict, api.Shift, api.Preempt} {
		if c.moves[kind] < least {
			t.Errorf("moves of Kind %d were told %d times", kind, c.moves[kind])
		}
	}
	for n := range longest + 1 {
		if c.lengths[n] < least {
			t.Errorf("what takes %d moves was found %d times", n, c.lengths[n])
		}
	}
	if c.longer < longer || c.short < least {
		t.Errorf("%d were longer than needed, %d found too long by one", c.longer, c.short)
	}
}

// drawing is a fixed order of numbers that looks like none.
type drawing uint64

func (d *drawing) below(n int) int {
	*d = *d*6364136223846793005 + 1442695040888963407
	return int(*d>>33) % n
}

// cluster draws one that may be, and a spec, with wants of most of the pods. Of
// some there are as few as may be, and some budgets are small, so that it counts
// which way leads to a state.
func (d *drawing) cluster(nodes, pods int) (api.Snapshot, api.Spec) {
	var s api.Snapshot
	zones := 1 + d.below(2)
	for i := range 1 + d.below(nodes) {
		n := api.Node{Id: 1 + i + i/2, Zone: 1 + d.below(zones), Cap: api.Vec{uint64(3 + d.below(4)), 2}}
		n.Held[0] = uint64(d.below(4) / 3)
		s.Nodes = append(s.Nodes, n)
	}
	somewhere := []int{0, 0} // how many of each load
	for i := range 1 + d.below(pods) {
		load := d.below(2)
		p := api.Pod{Id: 2 + i + i/2, Load: 3 + load, Prio: d.below(3), Req: api.Vec{uint64(1 + d.below(3)), uint64(d.below(4) / 3)}}
		if d.below(3) > 0 {
			p.Node = s.Nodes[d.below(len(s.Nodes))].Id
			somewhere[load]++
		}
		s.Pods = append(s.Pods, p)
	}
	for i, many := range somewhere {
		l := api.Load{Id: 3 + i, Apart: d.below(5) == 0, Min: max(0, many-d.below(4)), Max: many + d.below(4)}
		if d.below(4) == 0 {
			l.Skew = 1 + d.below(2)
		}
		s.Loads = append(s.Loads, l)
	}
	return s, d.spec(s)
}

// spec draws wants of most of the pods: of some draws all pods are to be
// somewhere, with more than they have; of others many of them as they are.
func (d *drawing) spec(s api.Snapshot) api.Spec {
	x := api.Spec{Preempts: d.below(4) / 2, Shifts: d.below(6) / 3}
	if d.below(6) == 0 {
		x.Preempts, x.Shifts = api.MaxMoves, 3+d.below(9)
	}
	more, other := d.below(3) == 0, 2+d.below(3)
	for _, p := range s.Pods {
		w := api.Want{Pod: p.Id, Stay: p.Node > 0, Req: p.Req}
		if more || d.below(other) == 0 {
			w.Stay = more || d.below(3) > 0
			w.Req[0] += uint64(d.below(4) / 2)
		}
		if !w.Stay {
			w.Req = api.Vec{}
		}
		if more || d.below(5) > 0 {
			x.Wants = append(x.Wants, w)
		}
	}
	return x
}

// safeCluster draws till one may be gone on from; of most the wants aren't met
// yet.
func (d *drawing) safeCluster(nodes, pods int) (api.Snapshot, api.Spec) {
	for {
		s, x := d.cluster(nodes, pods)
		first := state.First(s)
		if safe.Is(s, x, first) && (!state.Goal(x, first) || d.below(9) == 0) {
			return s, x
		}
	}
}

// The two ways to try all rows tell the same, where few enough moves are asked
// for that none needs to be left out.
func TestTheWords(t *testing.T) {
	var d drawing
	for range 400 {
		s, x := d.safeCluster(2, 2)
		all, some := fewestOfRows(s, x, state.First(s), 4), fewest(s, x, 4)
		if all != some {
			t.Fatalf("%v, %v: %d of all rows, %d of those that are gone on from", s, x, all, some)
		}
	}
	s, _ := d.safeCluster(2, 2)
	s.Nodes, s.Pods = make([]api.Node, 3), make([]api.Pod, 2)
	for moves, due := range []int{0, 1, 27, 703, 18279, api.MaxSteps + 1} {
		if many := rows(s, moves); many != due { // of 12 Places and Shifts, 2 Evicts, 12 Preempts
			t.Errorf("less than %d moves: %d rows, want %d", moves, many, due)
		}
	}
	if rows(api.Snapshot{}, 0) != 0 || rows(api.Snapshot{}, 1) != 1 || rows(api.Snapshot{}, 9) != 1 {
		t.Error("of no moves there is one row")
	}
}

// All rows, none left out, of clusters of at most two nodes and two pods.
func TestAgainstEveryRow(t *testing.T) { // P19.1, P19.3
	var d drawing
	c := newCount()
	for range 500 {
		s, x := d.safeCluster(2, 2)
		for depth := range 5 {
			c.hold(t, s, x, depth, fewestOfRows(s, x, state.First(s), depth+depth%2))
		}
	}
	c.enough(t, 3, 1, 10)
}

// Drawn clusters of few nodes and pods, of which some aren't safe, at each depth
// up to some.
func TestAgainstTheWords(t *testing.T) { // P19.1, P19.3, P1
	var d drawing
	c := newCount()
	unsafe := 0
	for i := range 1_500 {
		nodes, pods, most := 3, 4, 6
		if i%3 == 0 {
			nodes, pods, most = 2, 4, 9
		}
		s, x := d.safeCluster(nodes, pods)
		if i%10 == 0 {
			s, x = d.cluster(nodes, pods)
		}
		if err := cluster.Fair(s, x); err != nil {
			t.Fatalf("%v, %v: %v", s, x, err)
		}
		if !safe.Is(s, x, state.First(s)) {
			unsafe++
		}
		least := fewest(s, x, most)
		for depth := range most {
			c.hold(t, s, x, depth, least)
		}
	}
	c.enough(t, 5, 10, 40)
	if unsafe < 20 {
		t.Errorf("%d weren't safe", unsafe)
	}
}

// With as many steps as it took, or more, the same is told; with fewer Spent:
// what is let go for want of steps would never have been expanded.
func TestEveryNumberOfSteps(t *testing.T) { // P19.1
	var d drawing
	kinds := map[int]int{}
	for range 400 {
		s, x := d.safeCluster(3, 4)
		depth := 3 + d.below(4)
		least := fewest(s, x, depth)
		all := told(t, "all steps", s, x, depth, api.MaxSteps, least)
		for steps := range min(all.Steps+3, 150) {
			v := told(t, "each number of steps", s, x, depth, steps, least)
			kinds[v.Kind]++
			if steps >= all.Steps && (v.Kind != all.Kind || v.Steps != all.Steps || !slices.Equal(v.Moves, all.Moves)) {
				t.Fatalf("%v, %v: with %d steps %v, and with all %v", s, x, steps, v, all)
			}
			if steps < all.Steps && v.Kind != api.Spent {
				t.Fatalf("%v, %v: with %d steps %v, and with all %v", s, x, steps, v, all)
			}
		}
	}
	if kinds[api.Found] < 500 || kinds[api.None] < 200 || kinds[api.Spent] < 1_000 {
		t.Errorf("so often each Kind was told: %v", kinds)
	}
}
