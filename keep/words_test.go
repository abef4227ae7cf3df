package keep

import (
	"math"
	"reflect"
	"testing"

	"dunnage/api"
	"dunnage/cluster"
	"dunnage/safe"
	"dunnage/state"
	"dunnage/step"
)

// Keepers are held against layer 12, move by move, over drawn clusters. Layer 12
// counts all anew in each state; a keeper calls neither it nor a layer that
// looks at states, so that the two agree only if what is kept is right.

// track is a keeper, and the states ahead of and behind its moves, as layer 12
// tells them.
type track struct {
	s      api.Snapshot
	x      api.Spec
	k      *Keeper
	states []api.State
	told   map[[2]int]int // how often, by a move's kind, and by the Code; 0: done
}

func (r *track) at() api.State { return r.states[len(r.states)-1] }

// do holds a move against layer 12.
func (r *track) do(t *testing.T, m api.Move) {
	t.Helper()
	behind, due := step.Do(r.s, r.x, r.at(), m)
	if err := r.k.Do(m); err != due {
		t.Fatalf("%v, %v, %v: Do(%v): %v (%T), want %v", r.s, r.x, r.at(), m, err, err, due)
	}
	if due == nil {
		r.states = append(r.states, behind)
	}
	r.stands(t)
	code, _ := due.(api.Code)
	r.told[[2]int{m.Kind, int(code)}]++
}

// undo holds that the last move is taken back, if there is one.
func (r *track) undo(t *testing.T) {
	t.Helper()
	is := len(r.states) > 1
	if got := r.k.Undo(); got != is {
		t.Fatalf("%v, %v, %v: Undo: %v, want %v", r.s, r.x, r.at(), got, is)
	}
	if is {
		r.states = r.states[:len(r.states)-1]
	}
	r.stands(t)
}

func (r *track) stands(t *testing.T) {
	t.Helper()
	stands(t, "a track", r.k, r.s, r.at(), len(r.states)-1)
}

// enough holds that each answer was due so often, of each kind of move that can
// be told it; that a sum goes over so often of each kind that brings a pod.
func enough(t *testing.T, told map[[2]int]int, least, leastOver int) {
	t.Helper()
	due := map[int][]api.Code{
		api.Place:   {0, api.ErrArg, api.ErrNone, api.ErrState, api.ErrRoom, api.ErrApart, api.ErrSpread, api.ErrMany},
		api.Evict:   {0, api.ErrArg, api.ErrNone, api.ErrState, api.ErrSpread, api.ErrFew},
		api.Shift:   {0, api.ErrArg, api.ErrNone, api.ErrState, api.ErrRoom, api.ErrApart, api.ErrSpread, api.ErrBudget},
		api.Preempt: {0, api.ErrNone, api.ErrState, api.ErrPrio, api.ErrRoom, api.ErrApart, api.ErrSpread, api.ErrFew, api.ErrMany, api.ErrBudget},
		0:           {api.ErrArg},
		5:           {api.ErrArg},
	}
	for kind, codes := range due {
		for _, code := range codes {
			if many := told[[2]int{kind, int(code)}]; many < least {
				t.Errorf("kind %d was told %v %d times", kind, code, many)
			}
		}
	}
	for _, kind := range []int{api.Place, api.Shift, api.Preempt} {
		if many := told[[2]int{kind, int(api.ErrOver)}]; many < leastOver {
			t.Errorf("kind %d was told %d times that a sum goes over", kind, many)
		}
	}
}

// movesOf are all moves whose fields are from 0 up to these.
func movesOf(kind, pod, node, over int) []api.Move {
	var l []api.Move
	m := api.Move{}
	for m.Kind = 0; m.Kind <= kind; m.Kind++ {
		for m.Pod = 0; m.Pod <= pod; m.Pod++ {
			for m.Node = 0; m.Node <= node; m.Node++ {
				for m.Over = 0; m.Over <= over; m.Over++ {
					l = append(l, m)
				}
			}
		}
	}
	return l
}

// small are all snapshots of so many pods, each of one of these loads 1 and 2,
// at one of two nodes, or nowhere.
func small(pods int, loads []api.Load) []api.Snapshot {
	nodes := []api.Node{{Id: 1, Zone: 1, Cap: api.Vec{3}, Held: api.Vec{1}}, {Id: 2, Zone: 2, Cap: api.Vec{4}}}
	all := []api.Snapshot{{Nodes: nodes, Loads: loads}}
	for i := range pods {
		var more []api.Snapshot
		for _, s := range all {
			for which := range 6 {
				p := api.Pod{Id: 1 + i, Load: 1 + which%2, Prio: (i + which) % 3, Req: api.Vec{1}, Node: which / 2}
				one := s
				one.Pods = append(append([]api.Pod(nil), s.Pods...), p)
				more = append(more, one)
			}
		}
		all = more
	}
	return all
}

// All moves, those that may not be too, of all small snapshots; behind each one
// that is done all moves once more, and each one taken back.
func TestAllSmallStates(t *testing.T) { // P13.1, P13.3
	told := map[[2]int]int{}
	for _, loads := range [][]api.Load{
		{{Id: 1, Apart: true, Max: 9}, {Id: 2, Min: 1, Max: 1}},
		{{Id: 1, Skew: 1, Max: 9}, {Id: 2, Max: 2}},
	} {
		for pods := range 4 {
			for _, s := range small(pods, loads) {
				x := api.Spec{Preempts: 1, Shifts: 1, Wants: []api.Want{{Pod: 1, Stay: true, Req: api.Vec{2}}, {Pod: 2}}[:min(pods, 2)]}
				k, err := New(s, x)
				if heldNew(t, s, x, k, err) == 0 {
					r := &track{s: s, x: x, k: k, states: []api.State{state.First(s)}, told: told}
					r.all(t, movesOf(5, pods+1, 3, pods+1), 2)
				}
			}
		}
	}
	enough(t, told, 3, 0)
}

// all does each of these moves, and behind each one that is done, if there is a
// depth left, all of them.
func (r *track) all(t *testing.T, l []api.Move, depth int) {
	t.Helper()
	for _, m := range l {
		was := len(r.states)
		r.do(t, m)
		if len(r.states) > was {
			if depth > 1 {
				r.all(t, l, depth-1)
			}
			r.undo(t)
		}
	}
}

// heldNew holds what New told against layers 3 and 11, and tells the Code of
// it; 0: a keeper.
func heldNew(t *testing.T, s api.Snapshot, x api.Spec, k *Keeper, err error) api.Code {
	t.Helper()
	due := cluster.Fair(s, x)
	if all := safe.All(s, x, state.First(s)); due == nil && len(all) > 0 {
		due = all[0]
	}
	if !reflect.DeepEqual(err, due) || (k == nil) != (due != nil) {
		t.Fatalf("New(%v, %v): %v, %v (%T), want %v", s, x, k, err, err, due)
	}
	if spot, ok := due.(*api.Spot); ok {
		return spot.Err
	}
	code, _ := due.(api.Code)
	return code
}

// drawing is a fixed order of numbers that looks like none.
type drawing uint64

func (d *drawing) below(n int) int {
	*d = *d*6364136223846793005 + 1442695040888963407
	return int(*d>>33) % n
}

// amount draws one: most are small; some, of odd draws, are so great that two
// of them go over.
func (d *drawing) amount(odd bool, most int) api.Vec {
	v := api.Vec{uint64(d.below(most)), uint64(d.below(most))}
	if odd && d.below(4) == 0 {
		v[2+d.below(2)] = []uint64{1 << 63, math.MaxUint64, math.MaxUint64 / 2}[d.below(3)]
	}
	return v
}

// snapshot draws nodes, loads and pods that may be; of odd draws some amounts
// are as great as can be.
func (d *drawing) snapshot(odd bool) api.Snapshot {
	var s api.Snapshot
	wide := 6 + d.below(40)
	id := 0
	for range 1 + d.below(5) {
		id += 1 + d.below(3)
		n := api.Node{Id: id, Zone: 1 + d.below(3), Cap: d.amount(false, wide), Held: d.amount(false, 3)}
		n.Cap[0], n.Cap[1] = n.Cap[0]+4, n.Cap[1]+4
		if odd {
			n.Cap[2], n.Cap[3] = math.MaxUint64, math.MaxUint64
		}
		s.Nodes = append(s.Nodes, n)
	}
	for i := range 3 {
		s.Loads = append(s.Loads, api.Load{Id: 2*i + 1, Apart: d.below(3) == 0, Skew: d.below(3), Min: d.below(6) / 4, Max: 1 + d.below(6)})
	}
	for i := range d.below(api.MaxPods + 1) {
		p := api.Pod{Id: 3*i + 1, Load: 2*d.below(3) + 1, Prio: d.below(3), Req: d.amount(odd, 4)}
		if d.below(3) > 0 {
			p.Node = s.Nodes[d.below(len(s.Nodes))].Id
		}
		s.Pods = append(s.Pods, p)
	}
	return s
}

// spec draws wants and budgets, that may be with the snapshot.
func (d *drawing) spec(s api.Snapshot, odd bool) api.Spec {
	x := api.Spec{Preempts: d.below(5), Shifts: d.below(5)}
	for _, p := range s.Pods {
		switch d.below(4) {
		case 0:
			x.Wants = append(x.Wants, api.Want{Pod: p.Id})
		case 1:
			x.Wants = append(x.Wants, api.Want{Pod: p.Id, Stay: true, Req: d.amount(odd, 4)})
		}
	}
	return x
}

// spoil makes something of a snapshot or a spec that may not be.
func (d *drawing) spoil(s *api.Snapshot, x *api.Spec) {
	switch d.below(6) {
	case 0:
		x.Preempts = api.MaxMoves + 1
	case 1:
		s.Nodes = nil
	case 2:
		s.Nodes[d.below(len(s.Nodes))].Zone = 0
	case 3:
		x.Wants = append(x.Wants, api.Want{Pod: 2})
	case 4:
		s.Loads[2].Id = s.Loads[1].Id
	case 5:
		s.Pods = append(s.Pods, api.Pod{Id: 99, Load: 1, Node: 77})
	}
}

// move draws one, oftener one that can be made.
func (d *drawing) move(s api.Snapshot, t api.State) api.Move {
	if d.below(12) == 0 || len(t.Pods) == 0 {
		return api.Move{Kind: d.below(6), Pod: d.below(40) - 1, Node: d.below(10) - 1, Over: d.below(40) - 1}
	}
	pod, over := t.Pods[d.below(len(t.Pods))], t.Pods[d.below(len(t.Pods))]
	node := s.Nodes[d.below(len(s.Nodes))].Id
	if d.below(10) == 0 {
		return []api.Move{place(pod.Id, node), evict(pod.Id), shift(pod.Id, node), preempt(pod.Id, node, over.Id), evict(99)}[d.below(5)]
	}
	if pod.Node != 0 {
		return []api.Move{evict(pod.Id), shift(pod.Id, node)}[d.below(2)]
	}
	return []api.Move{place(pod.Id, node), preempt(pod.Id, over.Node, over.Id)}[d.below(2)]
}

// New, of drawn snapshots and specs: many that may not be, many whose first
// state isn't safe, and many others.
func TestNewAgainstTheLayers(t *testing.T) { // P13.1, R1, R3
	var d drawing
	told := map[api.Code]int{}
	for i := range 40_000 {
		s := d.snapshot(i%2 == 0)
		x := d.spec(s, i%2 == 0)
		if i%5 == 0 {
			d.spoil(&s, &x)
		}
		k, err := New(s, x)
		told[heldNew(t, s, x, k, err)]++
		if k != nil {
			stands(t, "drawn", k, s, state.First(s), 0)
		}
	}
	for _, code := range []api.Code{0, api.ErrArg, api.ErrLarge, api.ErrNone, api.ErrTwice, api.ErrOver, api.ErrRoom, api.ErrApart, api.ErrSpread, api.ErrFew, api.ErrMany} {
		if told[code] < 50 {
			t.Errorf("%v was told %d times", code, told[code])
		}
	}
}

// Drawn moves, and some of them taken back, of drawn clusters; at the end all of
// them are taken back.
func TestAgainstLayer12(t *testing.T) { // P13.1, P13.3
	var d drawing
	told := map[[2]int]int{}
	longest, keepers := 0, 0
	for i := 0; keepers < 4_000; i++ {
		s := d.snapshot(i%2 == 0)
		x := d.spec(s, i%2 == 0)
		k, err := New(s, x)
		if err != nil {
			continue
		}
		keepers++
		r := &track{s: s, x: x, k: k, states: []api.State{state.First(s)}, told: told}
		for range 40 {
			if d.below(5) == 0 {
				r.undo(t)
			} else {
				r.do(t, d.move(s, r.at()))
			}
		}
		longest = max(longest, k.Done())
		for range len(r.states) { // once more than there are moves
			r.undo(t)
		}
		fresh, err := New(s, x)
		if err != nil || !state.Same(k.State(), fresh.State()) || k.Done() != fresh.Done() {
			t.Fatalf("%v, %v: a keeper whose moves are all taken back is in %v, a fresh one in %v, %v", s, x, k.State(), fresh.State(), err)
		}
	}
	enough(t, told, 40, 10)
	if longest < 20 {
		t.Errorf("the longest one stood behind %d moves", longest)
	}
}

// Drawn walks: a keeper that does the moves, up to the first one that has an
// error, comes to what layer 12's Walk comes to.
func TestAgainstWalks(t *testing.T) { // P13.3
	var d drawing
	stops := 0
	for i := range 4_000 {
		s := d.snapshot(i%3 == 0)
		x := d.spec(s, i%3 == 0)
		var l []api.Move
		for at := state.First(s); len(l) < 12; {
			m := d.move(s, at)
			if behind, err := step.Do(s, x, at, m); err == nil {
				at = behind
			} else if d.below(20) > 0 && d.below(200) > len(l) {
				continue
			}
			l = append(l, m)
		}
		due, many, dueErr := step.Walk(s, x, l)
		k, err := New(s, x)
		if err != nil {
			if err != dueErr {
				t.Fatalf("New(%v, %v): %v, and Walk tells %v", s, x, err, dueErr)
			}
			continue
		}
		for _, m := range l {
			if err = k.Do(m); err != nil {
				stops++
				break
			}
		}
		if err != dueErr || k.Done() != many || !state.Same(k.State(), due) {
			t.Fatalf("%v, %v, %v: %v, %d, %v, and Walk tells %v, %d, %v", s, x, l, k.State(), k.Done(), err, due, many, dueErr)
		}
	}
	if stops < 100 {
		t.Errorf("%d walks stopped", stops)
	}
}
