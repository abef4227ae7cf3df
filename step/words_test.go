package step

import (
	"math"
	"math/big"
	"reflect"
	"slices"
	"testing"

	"dunnage/api"
	"dunnage/cluster"
	"dunnage/safe"
	"dunnage/state"
)

// The chapter's words, once more, without the layers below: all that can be
// wrong with a move stands in one list, in the order in which it is to be told;
// of it the first thing that holds is the error.

// wrong is one thing that may be wrong.
type wrong struct {
	holds bool
	code  api.Code
}

func firstWrong(l []wrong) error {
	for _, w := range l {
		if w.holds {
			return w.code
		}
	}
	return nil
}

// byWords is what Do is to tell.
func byWords(s api.Snapshot, x api.Spec, t api.State, m api.Move) (api.State, error) {
	var pod, over *api.Pod // nil: it isn't there
	behind := api.State{Pods: slices.Clone(t.Pods), Preempts: t.Preempts, Shifts: t.Shifts}
	for i := len(t.Pods) - 1; i >= 0; i-- { // from the last one on: the first of an Id stays
		if t.Pods[i].Id == m.Pod {
			pod = &behind.Pods[i]
		}
		if t.Pods[i].Id == m.Over {
			over = &behind.Pods[i]
		}
	}
	if err := firstWrong(madeWrong(s, m, pod, over)); err != nil {
		return api.State{}, err
	}
	if m.Kind == 4 && big.NewInt(int64(pod.Prio)).Cmp(big.NewInt(int64(over.Prio))) <= 0 {
		return api.State{}, api.ErrPrio
	}
	switch m.Kind {
	case 3:
		behind.Shifts++
	case 4:
		behind.Preempts++
		over.Node = 0
	}
	pod.Node = m.Node // of an Evict it is 0
	first := slices.IndexFunc(x.Wants, func(w api.Want) bool { return w.Pod == pod.Id })
	if m.Kind != 2 && first >= 0 && x.Wants[first].Stay {
		pod.Req = x.Wants[first].Req
	}
	if err := firstWrong(safeWrong(s, x, behind)); err != nil {
		return api.State{}, err
	}
	return behind, nil
}

// madeWrong is why a move can't be made.
func madeWrong(s api.Snapshot, m api.Move, pod, over *api.Pod) []wrong {
	isNode := slices.ContainsFunc(s.Nodes, func(n api.Node) bool { return n.Id == m.Node })
	site := func(p *api.Pod) int {
		if p == nil {
			return 0
		}
		return p.Node
	}
	return []wrong{
		{m.Kind < 1 || m.Kind > 4, api.ErrArg},
		{m.Kind == 2 && m.Node != 0, api.ErrArg},
		{m.Kind < 4 && m.Over != 0, api.ErrArg},
		{pod == nil, api.ErrNone},
		{m.Kind != 2 && !isNode, api.ErrNone},
		{m.Kind == 4 && over == nil, api.ErrNone},
		{m.Kind%3 == 1 && site(pod) != 0, api.ErrState}, // Place and Preempt are of one that is nowhere
		{m.Kind%3 != 1 && site(pod) == 0, api.ErrState},
		{m.Kind == 3 && site(pod) == m.Node, api.ErrState},
		{m.Kind == 4 && m.Pod == m.Over, api.ErrState},
		{m.Kind == 4 && site(over) != m.Node, api.ErrState},
	}
}

// safeWrong is why a state isn't safe.
func safeWrong(s api.Snapshot, x api.Spec, t api.State) []wrong {
	l := roomWrong(s, t)
	for i, p := range t.Pods {
		for _, q := range t.Pods[:i] {
			load := slices.IndexFunc(s.Loads, func(l api.Load) bool { return l.Id == p.Load })
			l = append(l, wrong{p.Node != 0 && q.Node == p.Node && q.Load == p.Load && load >= 0 && s.Loads[load].Apart, api.ErrApart})
		}
	}
	for _, load := range s.Loads {
		l = append(l, wrong{load.Skew > 0 && skewByWords(s, t, load.Id) > load.Skew, api.ErrSpread})
	}
	for _, load := range s.Loads {
		size := 0
		for _, p := range t.Pods {
			if p.Load == load.Id && p.Node != 0 {
				size++
			}
		}
		l = append(l, wrong{size < load.Min, api.ErrFew}, wrong{size > load.Max, api.ErrMany})
	}
	return append(l, wrong{t.Preempts > x.Preempts || t.Shifts > x.Shifts, api.ErrBudget})
}

// roomWrong is what is wrong with the nodes' room, counted by numbers without
// bounds. (A second node of an Id has the room of the first one.)
func roomWrong(s api.Snapshot, t api.State) []wrong {
	var l []wrong
	for _, n := range s.Nodes {
		n = s.Nodes[slices.IndexFunc(s.Nodes, func(o api.Node) bool { return o.Id == n.Id })]
		over, full := false, false
		for k := range 4 {
			use := new(big.Int)
			for _, p := range t.Pods {
				if p.Node == n.Id {
					use.Add(use, new(big.Int).SetUint64(p.Req[k]))
				}
			}
			over = over || !use.IsUint64()
			use.Add(use, new(big.Int).SetUint64(n.Held[k]))
			full = full || use.Cmp(new(big.Int).SetUint64(n.Cap[k])) > 0
		}
		l = append(l, wrong{over, api.ErrOver}, wrong{full, api.ErrRoom})
	}
	return l
}

// skewByWords is how unlike the zones of a load are.
func skewByWords(s api.Snapshot, t api.State, load int) int {
	each := map[int]int{}
	zone := map[int]int{}
	for _, n := range slices.Backward(s.Nodes) {
		each[n.Zone] = 0
		zone[n.Id] = n.Zone
	}
	for _, p := range t.Pods {
		if z, ok := zone[p.Node]; ok && p.Node != 0 && p.Load == load {
			each[z]++
		}
	}
	skew := 0
	for _, a := range each {
		for _, b := range each {
			skew = max(skew, a-b)
		}
	}
	return skew
}

// walkByWords is what Walk is to tell, from the end on: a walk of one move more
// is the walk of those ahead, and then, if they were all done, that move.
func walkByWords(s api.Snapshot, x api.Spec, l []api.Move) (api.State, int, error) {
	if err := cluster.Fair(s, x); err != nil {
		return api.State{}, 0, err
	}
	if len(l) == 0 {
		first := api.State{Pods: slices.Clone(s.Pods)}
		if err := firstWrong(safeWrong(s, x, first)); err != nil {
			return api.State{}, 0, err
		}
		return first, 0, nil
	}
	last := len(l) - 1
	t, n, err := walkByWords(s, x, l[:last])
	if err != nil {
		return t, n, err
	}
	behind, err := byWords(s, x, t, l[last])
	if err != nil {
		return t, n, err
	}
	return behind, n + 1, nil
}

// number is what is counted of an answer: 0, or its Code.
func number(err error) api.Code {
	code, _ := err.(api.Code)
	return code
}

// doneByWords holds Do against the words; it tells what Do tells.
func doneByWords(t *testing.T, s api.Snapshot, x api.Spec, at api.State, m api.Move) (api.State, error) {
	t.Helper()
	got, err := Do(s, x, at, m)
	due, dueErr := byWords(s, x, at, m)
	if err != dueErr || !reflect.DeepEqual(got, due) {
		t.Fatalf("Do(%v, %v, %v, %v): %v, %v (%T), want %v, %v", s, x, at, m, got, err, err, due, dueErr)
	}
	if err == nil && !safe.Is(s, x, got) { // P12.3
		t.Fatalf("Do(%v, %v, %v, %v): %v isn't safe: %v", s, x, at, m, got, safe.Why(s, x, got))
	}
	return got, err
}

// asLayersTell holds Do's error against what the layers tell, each asked of
// itself.
func asLayersTell(t *testing.T, s api.Snapshot, x api.Spec, at api.State, m api.Move, err error) {
	t.Helper()
	behind, made := state.Make(s, x, at, m)
	if made != nil {
		if err != made {
			t.Fatalf("Do(%v, %v, %v, %v): %v, and layer 5 tells %v", s, x, at, m, err, made)
		}
		return
	}
	all := safe.All(s, x, behind)
	if err == nil && len(all) > 0 || err != nil && err != error(api.ErrPrio) && (len(all) == 0 || err != error(all[0])) {
		t.Fatalf("Do(%v, %v, %v, %v): %v, and layer 11 tells %v", s, x, at, m, err, all)
	}
}

// All moves, those that may not be too, in all states of up to three pods, each
// of one of two loads, at one of two nodes, or nowhere.
func TestAllSmallStates(t *testing.T) { // P12.1, P12.3
	s := api.Snapshot{
		Nodes: []api.Node{{Id: 1, Zone: 1, Cap: api.Vec{2}, Held: api.Vec{1}}, {Id: 2, Zone: 2, Cap: api.Vec{4}}},
		Loads: []api.Load{{Id: 1, Apart: true, Max: 9}, {Id: 2, Skew: 1, Min: 1, Max: 1}},
	}
	x := api.Spec{Preempts: 1, Shifts: 1, Wants: []api.Want{{Pod: 1, Stay: true, Req: api.Vec{2}}, {Pod: 2}}}
	told := map[[2]int]int{} // by kind, and by Code
	all := 1
	for pods := range 4 {
		for which := range all {
			at := api.State{Preempts: which % 7 / 3, Shifts: which % 5 / 2}
			for i, rest := 0, which; i < pods; i, rest = i+1, rest/6 {
				at.Pods = append(at.Pods, api.Pod{Id: 1 + i, Load: 1 + rest%2, Prio: i * (which % 5) % 3, Req: api.Vec{1}, Node: rest % 6 / 2})
			}
			for m := range movesOf(5, pods+1, 3, pods+1) {
				_, err := doneByWords(t, s, x, at, m)
				asLayersTell(t, s, x, at, m, err)
				told[[2]int{m.Kind, int(number(err))}]++
			}
		}
		all *= 6
	}
	enough(t, told, 3)
}

// movesOf are all moves whose fields are from 0 up to these.
func movesOf(kind, pod, node, over int) func(yield func(api.Move) bool) {
	return func(yield func(api.Move) bool) {
		m := api.Move{}
		for m.Kind = 0; m.Kind <= kind; m.Kind++ {
			for m.Pod = 0; m.Pod <= pod; m.Pod++ {
				for m.Node = 0; m.Node <= node; m.Node++ {
					for m.Over = 0; m.Over <= over; m.Over++ {
						if !yield(m) {
							return
						}
					}
				}
			}
		}
	}
}

// enough holds that each answer was due so often, of each kind of move that can
// be told it.
func enough(t *testing.T, told map[[2]int]int, least int) {
	t.Helper()
	due := map[int][]api.Code{
		api.Place:   {0, api.ErrArg, api.ErrNone, api.ErrState, api.ErrRoom, api.ErrApart, api.ErrSpread, api.ErrFew, api.ErrMany, api.ErrBudget},
		api.Evict:   {0, api.ErrArg, api.ErrNone, api.ErrState, api.ErrRoom, api.ErrApart, api.ErrSpread, api.ErrFew, api.ErrBudget},
		api.Shift:   {0, api.ErrArg, api.ErrNone, api.ErrState, api.ErrRoom, api.ErrApart, api.ErrSpread, api.ErrFew, api.ErrMany, api.ErrBudget},
		api.Preempt: {0, api.ErrNone, api.ErrState, api.ErrPrio, api.ErrRoom, api.ErrApart, api.ErrSpread, api.ErrFew, api.ErrMany, api.ErrBudget},
		0:           {api.ErrArg},
		5:           {api.ErrArg},
	}
	for kind, codes := range due {
		for _, code := range codes {
			if many := told[[2]int{kind, int(code)}]; many < least {
				t.Errorf("kind %d was told %v %d times", kind, code, many)
			}
		}
	}
}

// drawing is a fixed order of numbers that looks like none.
type drawing uint64

func (d *drawing) below(n int) int {
	*d = *d*6364136223846793005 + 1442695040888963407
	return int(*d>>33) % n
}

// amount draws one: most are small; some, of odd draws, are so great that two
// of them go over.
func (d *drawing) amount(odd bool, most int) api.Vec {
	v := api.Vec{uint64(d.below(most)), uint64(d.below(most))}
	if odd && d.below(6) == 0 {
		v[2+d.below(2)] = []uint64{1 << 63, math.MaxUint64, math.MaxUint64 / 2}[d.below(3)]
	}
	return v
}

// snapshot draws nodes, loads and pods; of odd draws some amounts are as great
// as can be.
func (d *drawing) snapshot(odd bool) api.Snapshot {
	var s api.Snapshot
	wide := 6 + d.below(40)
	for i := range 1 + d.below(4) {
		n := api.Node{Id: i + 1, Zone: 1 + d.below(3), Cap: d.amount(false, wide), Held: d.amount(false, 2)}
		n.Cap[0], n.Cap[1] = n.Cap[0]+4, n.Cap[1]+4
		if odd {
			n.Cap[2], n.Cap[3] = math.MaxUint64, math.MaxUint64
		}
		s.Nodes = append(s.Nodes, n)
	}
	for i := range 3 {
		s.Loads = append(s.Loads, api.Load{Id: i + 1, Apart: d.below(3) == 0, Skew: d.below(3), Min: d.below(6) / 5, Max: 1 + d.below(8)})
	}
	for i := range d.below(api.MaxPods + 1) {
		p := api.Pod{Id: i + 1, Load: 1 + d.below(3), Prio: d.below(3), Req: d.amount(odd, 4), Node: d.below(len(s.Nodes) + 1)}
		s.Pods = append(s.Pods, p)
	}
	return s
}

// spec draws wants and budgets, that may be with the snapshot.
func (d *drawing) spec(s api.Snapshot, odd bool) api.Spec {
	x := api.Spec{Preempts: d.below(4), Shifts: d.below(4)}
	for _, p := range s.Pods {
		switch d.below(4) {
		case 0:
			x.Wants = append(x.Wants, api.Want{Pod: p.Id})
		case 1:
			x.Wants = append(x.Wants, api.Want{Pod: p.Id, Stay: true, Req: d.amount(odd, 4)})
		}
	}
	return x
}

// wild makes of a snapshot and a spec some in which Ids are there twice, or 0,
// or below, and in no order, and other numbers are below 0.
func (d *drawing) wild(s api.Snapshot, x api.Spec) {
	for i := range s.Nodes {
		s.Nodes[i].Id, s.Nodes[i].Zone = d.below(6)-1, d.below(5)-1
	}
	for i := range s.Loads {
		s.Loads[i] = api.Load{Id: d.below(6) - 1, Apart: s.Loads[i].Apart, Skew: d.below(5) - 1, Min: d.below(3) - 1, Max: d.below(9) - 1}
	}
	for i := range s.Pods {
		s.Pods[i].Id, s.Pods[i].Load, s.Pods[i].Node = d.below(8)-1, d.below(6)-1, d.below(7)-1
		if d.below(8) == 0 {
			s.Pods[i].Prio = []int{math.MaxInt, math.MinInt, -1}[d.below(3)]
		}
	}
	for i := range x.Wants {
		x.Wants[i].Pod = d.below(8) - 1
	}
}

// move draws one, oftener one that can be made.
func (d *drawing) move(s api.Snapshot, t api.State) api.Move {
	if d.below(12) == 0 || len(t.Pods) == 0 || len(s.Nodes) == 0 {
		return api.Move{Kind: d.below(6), Pod: d.below(14) - 1, Node: d.below(6) - 1, Over: d.below(14) - 1}
	}
	pod, over := t.Pods[d.below(len(t.Pods))], t.Pods[d.below(len(t.Pods))]
	node := s.Nodes[d.below(len(s.Nodes))].Id
	if pod.Node != 0 {
		return []api.Move{evict(pod.Id), shift(pod.Id, node)}[d.below(2)]
	}
	return []api.Move{place(pod.Id, node), preempt(pod.Id, over.Node, over.Id)}[d.below(2)]
}

// Moves of drawn states, of which many aren't safe, and many may not be.
func TestAgainstTheWords(t *testing.T) { // P12.1, P12.3, R1, R3
	var d drawing
	told := map[[2]int]int{}
	for i := range 20_000 {
		s := d.snapshot(i%2 == 0)
		x := d.spec(s, i%2 == 0)
		if i%4 < 2 {
			d.wild(s, x)
		}
		at := state.First(s)
		at.Preempts, at.Shifts = d.below(3), d.below(3)
		for range 12 {
			m := d.move(s, at)
			got, err := doneByWords(t, s, x, at, m)
			asLayersTell(t, s, x, at, m, err)
			told[[2]int{m.Kind, int(number(err))}]++
			if err == nil {
				at = got
			}
		}
	}
	enough(t, told, 20)
	for _, kind := range []int{api.Place, api.Preempt} {
		if many := told[[2]int{kind, int(api.ErrOver)}]; many < 20 {
			t.Errorf("kind %d was told that a sum goes over %d times", kind, many)
		}
	}
}

// spoil makes something of a snapshot or a spec that may not be, or a first
// state that isn't safe.
func (d *drawing) spoil(s *api.Snapshot, x *api.Spec) {
	switch d.below(6) {
	case 0:
		x.Preempts = api.MaxMoves + 1
	case 1:
		s.Nodes = nil
	case 2:
		s.Nodes[d.below(len(s.Nodes))].Zone = 0
	case 3:
		x.Wants = append(x.Wants, api.Want{Pod: 13})
	default:
		s.Loads[d.below(3)].Max = 0
	}
}

// walkOf draws a walk from a snapshot's first state, most moves of it such as
// can be done.
func (d *drawing) walkOf(s api.Snapshot, x api.Spec) []api.Move {
	var l []api.Move
	at := state.First(s)
	for range d.below(16) {
		m := d.move(s, at)
		behind, err := byWords(s, x, at, m)
		for tries := d.below(10) * 10; tries > 0 && err != nil; tries-- {
			m = d.move(s, at)
			behind, err = byWords(s, x, at, m)
		}
		if err == nil {
			at = behind
		}
		l = append(l, m)
	}
	return l
}

// cutAnywhere holds that each beginning of the moves that were done is a walk,
// with all of them done and a safe state behind it, and that each longer one
// stops where the whole one stops.
func cutAnywhere(t *testing.T, s api.Snapshot, x api.Spec, l []api.Move, done int, last api.State, why error) { // P12.3
	t.Helper()
	for n := range len(l) + 1 {
		got, many, err := Walk(s, x, l[:n])
		if n <= done && (err != nil || many != n || !safe.Is(s, x, got)) {
			t.Fatalf("Walk(%v, %v, %v): %v, %d, %v", s, x, l[:n], got, many, err)
		}
		if n > done && (err != why || many != done) {
			t.Fatalf("Walk(%v, %v, %v): %d, %v, want %d, %v", s, x, l[:n], many, err, done, why)
		}
		if n >= done && !state.Same(got, last) {
			t.Fatalf("Walk(%v, %v, %v): %v, want %v", s, x, l[:n], got, last)
		}
	}
}

// Walks of drawn snapshots: some that may not be, some whose first state isn't
// safe, and many others, that end, or stop at the first move, or at a later one.
func TestWalksAgainstTheWords(t *testing.T) { // P12.1, P12.3, R1, R3
	var d drawing
	ends, stops := map[int]int{}, map[int]int{} // by how many moves were done
	spots, larges, faults := 0, 0, 0
	for i := range 8_000 {
		s := d.snapshot(i%8 == 0)
		x := d.spec(s, i%8 == 0)
		if i%10 == 0 {
			d.spoil(&s, &x)
		}
		var l []api.Move
		if len(s.Nodes) > 0 {
			l = d.walkOf(s, x)
		}
		got, n, err := Walk(s, x, l)
		due, dueN, dueErr := walkByWords(s, x, l)
		if !reflect.DeepEqual(err, dueErr) || n != dueN || !state.Same(got, due) {
			t.Fatalf("Walk(%v, %v, %v): %v, %d, %v (%T), want %v, %d, %v", s, x, l, got, n, err, err, due, dueN, dueErr)
		}
		_, isSpot := err.(*api.Spot)
		switch {
		case isSpot:
			spots++
		case err == error(api.ErrLarge):
			larges++
		case !safe.Is(s, x, state.First(s)):
			faults++
		case err == nil:
			ends[n]++
			cutAnywhere(t, s, x, l, n, got, nil)
		default:
			stops[n]++
			cutAnywhere(t, s, x, l, n, got, err)
		}
	}
	if spots < 100 || larges < 100 || faults < 500 {
		t.Errorf("%d and %d may not be, %d aren't safe", spots, larges, faults)
	}
	for n := range 12 {
		if ends[n] < 20 || stops[n] < 10 {
			t.Errorf("%d walks end behind %d moves, %d stop there", ends[n], n, stops[n])
		}
	}
}
