package tidy

import (
	"math"
	"math/big"
	"slices"
	"testing"

	"dunnage/api"
	"dunnage/cluster"
	"dunnage/safe"
	"dunnage/state"
	"dunnage/step"
)

// The chapter's words, once more, without the layers below: what is asked of a
// pod and a node is counted anew each time, by numbers without bounds.

// podsAt are the pods at a node.
func podsAt(t api.State, node int) []api.Pod {
	return slices.DeleteFunc(slices.Clone(t.Pods), func(p api.Pod) bool { return p.Node != node })
}

// nodeIds are the Ids of all nodes, rising, each once.
func nodeIds(s api.Snapshot) []int {
	var ids []int
	for _, n := range s.Nodes {
		if !slices.Contains(ids, n.Id) {
			ids = append(ids, n.Id)
		}
	}
	slices.Sort(ids)
	return ids
}

func isUsed(t api.State, node int) bool { return node != 0 && len(podsAt(t, node)) > 0 }

func usedByWords(s api.Snapshot, t api.State) int {
	many := 0
	for _, id := range nodeIds(s) {
		if isUsed(t, id) {
			many++
		}
	}
	return many
}

// proposalsByWords are the proposals, each with the state behind it.
func proposalsByWords(s api.Snapshot, x api.Spec, t api.State) ([]api.Move, []api.State) {
	var moves []api.Move
	var states []api.State
	for i, p := range t.Pods { // the Ids rise
		for _, to := range nodeIds(s) {
			isOne := p.Node != 0 && len(podsAt(t, p.Node)) == 1 && slices.Contains(nodeIds(s), p.Node)
			if !isOne || to == p.Node || !isUsed(t, to) {
				continue
			}
			behind := api.State{Pods: slices.Clone(t.Pods), Preempts: t.Preempts, Shifts: t.Shifts + 1}
			behind.Pods[i].Node = to
			for _, w := range slices.Backward(x.Wants) { // the first one counts: it comes last
				if w.Pod == p.Id {
					behind.Pods[i].Req = p.Req
				}
				if w.Pod == p.Id && w.Stay {
					behind.Pods[i].Req = w.Req
				}
			}
			if safeByWords(s, x, behind) {
				moves = append(moves, api.Move{Kind: 3, Pod: p.Id, Node: to})
				states = append(states, behind)
			}
		}
	}
	return moves, states
}

// tidyByWords does the first proposal, and what is left to be done behind it.
func tidyByWords(s api.Snapshot, x api.Spec, t api.State, most int) (api.State, []api.Move) {
	moves, states := proposalsByWords(s, x, t)
	if most <= 0 || len(moves) == 0 {
		return t, nil
	}
	ends, l := tidyByWords(s, x, states[0], min(most, 8)-1)
	return ends, append([]api.Move{moves[0]}, l...)
}

func safeByWords(s api.Snapshot, x api.Spec, t api.State) bool {
	for _, n := range s.Nodes {
		first := slices.IndexFunc(s.Nodes, func(o api.Node) bool { return o.Id == n.Id })
		if !hasRoom(s.Nodes[first], podsAt(t, n.Id)) {
			return false
		}
	}
	for i, l := range s.Loads {
		if !loadIsSafe(s, t, l) {
			return false
		}
		first := slices.IndexFunc(s.Loads, func(o api.Load) bool { return o.Id == l.Id })
		if first == i && l.Apart && twoTogether(t, l.Id) {
			return false
		}
	}
	return t.Preempts <= x.Preempts && t.Shifts <= x.Shifts
}

func hasRoom(n api.Node, pods []api.Pod) bool {
	for k := range 4 {
		use := new(big.Int)
		for _, p := range pods {
			use.Add(use, new(big.Int).SetUint64(p.Req[k]))
		}
		use.Add(use, new(big.Int).SetUint64(n.Held[k]))
		if use.Cmp(new(big.Int).SetUint64(n.Cap[k])) > 0 {
			return false
		}
	}
	return true
}

func twoTogether(t api.State, load int) bool {
	for i, p := range t.Pods {
		for _, q := range t.Pods[:i] {
			if p.Node != 0 && p.Node == q.Node && p.Load == load && q.Load == load {
				return true
			}
		}
	}
	return false
}

// loadIsSafe looks at how many of a load are somewhere, and in which zones.
func loadIsSafe(s api.Snapshot, t api.State, l api.Load) bool {
	size := 0
	each := map[int]int{} // by zone
	for _, n := range s.Nodes {
		each[n.Zone] = 0
	}
	for _, p := range t.Pods {
		if p.Load != l.Id || p.Node == 0 {
			continue
		}
		size++
		if i := slices.IndexFunc(s.Nodes, func(n api.Node) bool { return n.Id == p.Node }); i >= 0 {
			each[s.Nodes[i].Zone]++
		}
	}
	for _, a := range each {
		for _, b := range each {
			if l.Skew > 0 && a-b > l.Skew {
				return false
			}
		}
	}
	return l.Min <= size && size <= l.Max
}

// count is how often each answer was due.
type count struct {
	used, proposed, done map[int]int // by how many
	refused              map[api.Code]int
	comes, goes          int // how often a move made another one possible, or took the next one away
}

func newCount() count {
	return count{used: map[int]int{}, proposed: map[int]int{}, done: map[int]int{}, refused: map[api.Code]int{}}
}

// hold holds all three calls against the words.
func (c *count) hold(t *testing.T, s api.Snapshot, x api.Spec, p api.State, most int) {
	t.Helper()
	many := usedByWords(s, p)
	if got := Used(s, p); got != many {
		t.Fatalf("Used(%v, %v): %d, want %d", s, p, got, many)
	}
	l, states := proposalsByWords(s, x, p)
	if got := Propose(s, x, p); !slices.Equal(got, l) {
		t.Fatalf("Propose(%v, %v, %v): %v, want %v", s, x, p, got, l)
	}
	ends, moves := tidyByWords(s, x, p, most)
	if got, told := Tidy(s, x, p, most); !state.Same(got, ends) || !slices.Equal(told, moves) {
		t.Fatalf("Tidy(%v, %v, %v, %d): %v, %v, want %v, %v", s, x, p, most, got, told, ends, moves)
	}
	for _, behind := range states {
		if Used(s, behind) != many-1 { // P16.4
			t.Fatalf("%v, %v: of %d are used %d behind a proposal", s, p, many, Used(s, behind))
		}
	}
	c.used[many]++
	c.proposed[min(len(l), 9)]++
	c.done[len(moves)]++
	c.why(s, x, p)
	if len(l) > 0 {
		c.turn(l, states[0], s, x)
	}
}

// why counts why those that are alone can't be shifted to nodes that are used.
func (c *count) why(s api.Snapshot, x api.Spec, p api.State) {
	for _, pod := range p.Pods {
		for _, to := range nodeIds(s) {
			if len(podsAt(p, pod.Node)) == 1 && slices.Contains(nodeIds(s), pod.Node) && isUsed(p, to) {
				_, err := step.Do(s, x, p, shift(pod.Id, to))
				code, _ := err.(api.Code)
				c.refused[code]++
			}
		}
	}
}

// turn counts how the first proposal turns the others.
func (c *count) turn(l []api.Move, behind api.State, s api.Snapshot, x api.Spec) {
	after, _ := proposalsByWords(s, x, behind)
	for _, m := range after {
		if !slices.Contains(l, m) {
			c.comes++
			break
		}
	}
	if len(l) > 1 && !slices.Contains(after, l[1]) {
		c.goes++
	}
}

// enough holds that each answer was due so often that its test means anything.
func (c *count) enough(t *testing.T, used, proposed, done, comes, least int) {
	t.Helper()
	for name, of := range map[string]struct {
		many map[int]int
		up   int
	}{"used": {c.used, used}, "proposed": {c.proposed, proposed}, "done": {c.done, done}} {
		for n := range of.up + 1 {
			if of.many[n] < least {
				t.Errorf("%d were %s %d times", n, name, of.many[n])
			}
		}
	}
	for _, code := range []api.Code{0, api.ErrRoom, api.ErrApart, api.ErrSpread, api.ErrFew, api.ErrMany, api.ErrBudget} {
		if c.refused[code] < least {
			t.Errorf("a Shift was told %d %d times", code, c.refused[code])
		}
	}
	if c.comes < comes || c.goes < least {
		t.Errorf("%d times a move came, %d times one went", c.comes, c.goes)
	}
}

// All states of four pods that are at one of four nodes, one of them in a zone
// of its own and one not the snapshot's, or nowhere, with loads of many kinds.
func TestAllSmallStates(t *testing.T) { // P16.1, P16.2, P16.4
	c := newCount()
	for which := range 5 * 5 * 5 * 5 {
		for how := range 3 * 16 {
			s := api.Snapshot{
				Nodes: []api.Node{{Id: 3, Zone: 1, Cap: api.Vec{5}}, {Id: 1, Zone: 1, Cap: api.Vec{6}}, {Id: 2, Zone: 2, Cap: api.Vec{7}}},
				Loads: []api.Load{{Id: 1, Apart: how&1 > 0, Skew: how & 2, Max: 4 - how&4/2}, {Id: 2, Skew: how & 1, Min: how & 8 / 8, Max: 9}},
			}
			p := api.State{Shifts: how % 2}
			for i, rest := 0, which; i < 4; i, rest = i+1, rest/5 {
				p.Pods = append(p.Pods, api.Pod{Id: 1 + i, Load: 1 + how/3*i%2, Req: api.Vec{uint64(1 + (how+i)%3)}, Node: rest % 5})
			}
			x := api.Spec{Shifts: 1 + how%3, Wants: []api.Want{{Pod: 2, Stay: how%5 == 0, Req: api.Vec{3}}}}
			c.hold(t, s, x, p, how%4)
		}
	}
	c.enough(t, 3, 2, 2, 0, 20) // four pods are too few for a move to come
}

// drawing is a fixed order of numbers that looks like none.
type drawing uint64

func (d *drawing) below(n int) int {
	*d = *d*6364136223846793005 + 1442695040888963407
	return int(*d>>33) % n
}

// amount draws small ones; some, of wild draws, are so great that two of them
// go over.
func (d *drawing) amount(most int, wild bool) api.Vec {
	v := api.Vec{uint64(d.below(most)), uint64(d.below(most))}
	if wild && d.below(12) == 0 {
		v[2+d.below(2)] = []uint64{1 << 63, top, top / 2}[d.below(3)]
	}
	return v
}

// snapshot draws nodes, as many as may be, and loads; of wild draws there may be
// more nodes, in no order, and Ids are there twice, or 0, or below.
func (d *drawing) snapshot(wild bool) api.Snapshot {
	var s api.Snapshot
	wide, zones := 4+d.below(20), 1+d.below(3)
	for i := range 1 + d.below(api.MaxNodes) {
		n := api.Node{Id: 1 + i + i/3, Zone: 1 + d.below(zones), Cap: d.amount(wide, false), Held: d.amount(2, false)}
		n.Cap[0], n.Cap[1] = n.Cap[0]+3, n.Cap[1]+3
		if wild {
			n.Id, n.Cap[2], n.Cap[3] = d.below(12)-1, top, top
		}
		s.Nodes = append(s.Nodes, n)
	}
	for i := range 3 {
		l := api.Load{Id: i + 1, Apart: d.below(4) == 0, Min: d.below(12) / 11, Max: 6 + d.below(8)}
		if d.below(3) == 0 {
			l.Skew = 1 + d.below(2)
		}
		if wild && d.below(8) == 0 {
			l = api.Load{Id: d.below(4), Skew: d.below(3) - 1, Min: d.below(3) - 1, Max: d.below(9)}
		}
		s.Loads = append(s.Loads, l)
	}
	if wild && d.below(4) == 0 {
		s.Nodes = slices.Concat(s.Nodes, s.Nodes)
	}
	return s
}

// pods draws some, by rising Ids, most of them somewhere; of wild draws some at
// nodes that aren't there, and some Ids are below 0.
func (d *drawing) pods(s api.Snapshot, wild bool) []api.Pod {
	var l []api.Pod
	nowhere := 2 + d.below(5)
	for i := range d.below(api.MaxPods + 1) {
		p := api.Pod{Id: 1 + i + i/2, Load: 1 + d.below(3), Prio: d.below(3), Req: d.amount(4, wild)}
		if d.below(nowhere) > 0 {
			p.Node = s.Nodes[d.below(len(s.Nodes))].Id
		}
		if wild {
			p.Id -= 3
			if d.below(10) == 0 {
				p.Node = d.below(16) - 2
			}
		}
		l = append(l, p)
	}
	return l
}

// spec draws wants of some of the pods, and budgets.
func (d *drawing) spec(pods []api.Pod, wild bool) api.Spec {
	x := api.Spec{Preempts: d.below(3), Shifts: []int{0, 1, 2, 40, 40, 40}[d.below(6)]}
	for _, p := range pods {
		switch d.below(4) {
		case 0:
			x.Wants = append(x.Wants, api.Want{Pod: p.Id})
		case 1:
			x.Wants = append(x.Wants, api.Want{Pod: p.Id, Stay: true, Req: d.amount(4, wild)})
		}
		if wild && d.below(6) == 0 {
			x.Wants = append(x.Wants, api.Want{Pod: p.Id, Stay: d.below(2) == 0, Req: d.amount(4, false)})
		}
	}
	return x
}

// Drawn snapshots, of which many may not be, and states, of which many aren't
// safe.
func TestAgainstTheWords(t *testing.T) { // P16.1, P16.2, P16.4, P1
	var d drawing
	c := newCount()
	for i := range 30_000 {
		wild := i%3 == 0
		s := d.snapshot(wild)
		p := api.State{Pods: d.pods(s, wild), Preempts: d.below(20) / 19, Shifts: d.below(20) / 19}
		x := d.spec(p.Pods, wild)
		if !wild {
			q := s
			q.Pods = p.Pods
			if err := cluster.Fair(q, x); err != nil {
				t.Fatalf("%v, %v: %v", q, x, err)
			}
		}
		c.hold(t, s, x, p, d.below(12)-1)
	}
	c.enough(t, 7, 9, 4, 20, 20)
	if c.refused[api.ErrOver] < 20 {
		t.Errorf("a sum went over %d times", c.refused[api.ErrOver])
	}
}

// With a snapshot and a spec that may be, and a safe state, each state on the
// way is safe, and one node less is used each time; the moves, walked from the
// first state on, come to the state that is told.
func TestEachStateOnTheWay(t *testing.T) { // P16.2, P16.4
	var d drawing
	done := map[int]int{} // by how many moves
	for range 40_000 {
		s := d.snapshot(false)
		s.Pods = d.pods(s, false)
		x := d.spec(s.Pods, false)
		first, most := state.First(s), d.below(10)
		if !safe.Is(s, x, first) {
			continue
		}
		ends, l := Tidy(s, x, first, most)
		got, many, err := step.Walk(s, x, l)
		if err != nil || many != len(l) || !state.Same(got, ends) {
			t.Fatalf("%v, %v: %v, walked, come to %v, %d, %v, and not to %v", s, x, l, got, many, err, ends)
		}
		if len(l) > most || len(l) > api.MaxNodes || len(l) < most && len(Propose(s, x, ends)) > 0 {
			t.Fatalf("%v, %v: with most %d %v are done", s, x, most, l)
		}
		for n := range len(l) + 1 {
			behind, _, err := step.Walk(s, x, l[:n])
			if err != nil || !safe.Is(s, x, behind) || Used(s, behind) != Used(s, first)-n {
				t.Fatalf("%v, %v: behind %v: %v, and of %d nodes %d are used", s, x, l[:n], err, Used(s, first), Used(s, behind))
			}
			if n < len(l) && Propose(s, x, behind)[0] != l[n] {
				t.Fatalf("%v, %v: behind %v is done %v, and proposed first is %v", s, x, l[:n], l[n], Propose(s, x, behind)[0])
			}
		}
		done[len(l)]++
	}
	for n := range 5 {
		if done[n] < 20 {
			t.Errorf("%d moves were done %d times", n, done[n])
		}
	}
}

// Of a state that isn't safe, or was shifted and preempted before, the moves,
// done one behind the other, come to the state that is told, too.
func TestTheStateAndTheMovesBelongTogether(t *testing.T) { // P16.2, P16.4
	var d drawing
	held := 0
	for i := range 20_000 {
		wild := i%2 == 0
		s := d.snapshot(wild)
		p := api.State{Pods: d.pods(s, wild), Preempts: d.below(3), Shifts: []int{0, 1, 30, math.MinInt}[d.below(4)]}
		x := d.spec(p.Pods, wild)
		ends, l := Tidy(s, x, p, math.MaxInt)
		used := Used(s, p)
		for _, m := range l {
			behind, err := step.Do(s, x, p, m)
			used--
			if err != nil || m.Kind != api.Shift || m.Over != 0 || Used(s, behind) != used {
				t.Fatalf("%v, %v, %v: %v: %v, and %d nodes are used, want %d", s, x, p, m, err, Used(s, behind), used)
			}
			p = behind
			held++
		}
		if !state.Same(ends, p) {
			t.Fatalf("%v, %v: %v come to %v, and not to %v", s, x, l, p, ends)
		}
	}
	if held < 2_000 {
		t.Errorf("%d moves were done", held)
	}
}
