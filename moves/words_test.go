package moves

import (
	"math/big"
	"slices"
	"testing"

	"dunnage/api"
	"dunnage/cluster"
	"dunnage/state"
	"dunnage/step"
)

// The chapter's words, once more, without the layers below: each move that there
// is is looked at, in the order in which they are to be told, with numbers
// without bounds.

// firstOf is where the first pod of an Id stands; -1: nowhere.
func firstOf(t api.State, id int) int {
	return slices.IndexFunc(t.Pods, func(p api.Pod) bool { return p.Id == id })
}

// doneByWords is the state behind a move, and whether it can be done.
func doneByWords(s api.Snapshot, x api.Spec, t api.State, m api.Move) (api.State, bool) {
	pod, over := firstOf(t, m.Pod), firstOf(t, m.Over)
	isNode := slices.ContainsFunc(s.Nodes, func(n api.Node) bool { return n.Id == m.Node })
	if pod < 0 {
		return t, false
	}
	here, behind := t.Pods[pod].Node, cloned(t)
	can := false
	switch m.Kind {
	case 1:
		can = here == 0 && isNode && m.Over == 0
	case 2:
		can = here != 0 && m.Node == 0 && m.Over == 0
	case 3:
		can = here != 0 && isNode && here != m.Node && m.Over == 0
		behind.Shifts++
	case 4:
		can = here == 0 && isNode && over >= 0 && over != pod && t.Pods[over].Node == m.Node && t.Pods[over].Prio < t.Pods[pod].Prio
		behind.Preempts++
		if can {
			behind.Pods[over].Node = 0
		}
	}
	behind.Pods[pod].Node = m.Node
	want := slices.IndexFunc(x.Wants, func(w api.Want) bool { return w.Pod == m.Pod })
	if m.Kind != 2 && want >= 0 && x.Wants[want].Stay {
		behind.Pods[pod].Req = x.Wants[want].Req
	}
	return behind, can && safeByWords(s, x, behind)
}

func safeByWords(s api.Snapshot, x api.Spec, t api.State) bool {
	for _, n := range s.Nodes {
		if !hasRoom(s.Nodes[nodeOf(s, n.Id)], t) {
			return false
		}
	}
	for i, p := range t.Pods {
		load := slices.IndexFunc(s.Loads, func(l api.Load) bool { return l.Id == p.Load })
		for _, q := range t.Pods[:i] {
			if p.Node != 0 && p.Node == q.Node && p.Load == q.Load && load >= 0 && s.Loads[load].Apart {
				return false
			}
		}
	}
	for _, l := range s.Loads {
		if !loadIsSafe(s, t, l) {
			return false
		}
	}
	return t.Preempts <= x.Preempts && t.Shifts <= x.Shifts
}

// nodeOf is where the first node of an Id stands; -1: nowhere.
func nodeOf(s api.Snapshot, id int) int {
	return slices.IndexFunc(s.Nodes, func(n api.Node) bool { return n.Id == id })
}

// hasRoom tells whether all that is at a node, and what is held, fits.
func hasRoom(n api.Node, t api.State) bool {
	for k, most := range n.Cap {
		use := new(big.Int).SetUint64(n.Held[k])
		for _, p := range t.Pods {
			if p.Node == n.Id {
				use.Add(use, new(big.Int).SetUint64(p.Req[k]))
			}
		}
		if use.Cmp(new(big.Int).SetUint64(most)) > 0 {
			return false
		}
	}
	return true
}

// loadIsSafe looks at how many of a load are somewhere, and in which zones.
func loadIsSafe(s api.Snapshot, t api.State, l api.Load) bool {
	size := 0
	inZone := map[int]int{}
	for _, n := range s.Nodes {
		inZone[n.Zone] = 0
	}
	for _, p := range t.Pods {
		if p.Load != l.Id || p.Node == 0 {
			continue
		}
		size++
		if i := nodeOf(s, p.Node); i >= 0 {
			inZone[s.Nodes[i].Zone]++
		}
	}
	for _, one := range inZone {
		for _, other := range inZone {
			if l.Skew > 0 && one-other > l.Skew {
				return false
			}
		}
	}
	return l.Min <= size && size <= l.Max
}

// rising are numbers, and 0, each once.
func rising(l []int) []int {
	l = append(l, 0)
	slices.Sort(l)
	return slices.Compact(l)
}

// every are all moves of the four Kinds, of each pod, node and other pod, and of
// 0, in the order in which they are to be told.
func every(s api.Snapshot, t api.State) func(yield func(api.Move) bool) {
	var pods, nodes []int
	for _, p := range t.Pods {
		pods = append(pods, p.Id)
	}
	for _, n := range s.Nodes {
		nodes = append(nodes, n.Id)
	}
	pods, nodes = rising(pods), rising(nodes)
	return func(yield func(api.Move) bool) {
		m := api.Move{}
		for m.Kind = range 5 {
			for _, m.Pod = range pods {
				for _, m.Node = range nodes {
					for _, m.Over = range pods {
						if !yield(m) {
							return
						}
					}
				}
			}
		}
	}
}

// farByWords is the least number of pairs in which all that aren't met fit.
func farByWords(x api.Spec, t api.State) int {
	unmet, pairs := 0, 0
	for _, w := range x.Wants {
		i := firstOf(t, w.Pod)
		switch {
		case i < 0, !w.Stay && t.Pods[i].Node != 0, w.Stay && t.Pods[i].Node == 0, w.Stay && t.Pods[i].Req != w.Req:
			unmet++
		}
	}
	for 2*pairs < unmet {
		pairs++
	}
	return pairs
}

// count is how often each answer was due.
type count struct {
	told, far, turned map[int]int // by Kind; by how far it is; by how much less
	refused           map[[2]int]int
	none, many        int // states of which no move can be done, or more than 40
}

func newCount() count {
	return count{told: map[int]int{}, far: map[int]int{}, turned: map[int]int{}, refused: map[[2]int]int{}}
}

// hold holds all three calls against the words, and against each move tried by
// layer 12. Where once is true, each pod is wanted once.
func (c *count) hold(t *testing.T, s api.Snapshot, x api.Spec, at api.State, once bool) {
	t.Helper()
	var due, tried []api.Move
	var behind, after []api.State
	for m := range every(s, at) {
		if b, ok := doneByWords(s, x, at, m); ok {
			due, behind = append(due, m), append(behind, b)
		}
		b, err := step.Do(s, x, at, m)
		if err == nil {
			tried, after = append(tried, m), append(after, b)
			c.told[m.Kind]++
		}
		code, _ := err.(api.Code)
		c.refused[[2]int{m.Kind, int(code)}]++
	}
	if !slices.Equal(due, tried) || !slices.EqualFunc(behind, after, state.Same) {
		t.Fatalf("%v, %v, %v: the words have %v, and layer 12 does %v", s, x, at, due, tried)
	}
	if l := All(s, x, at); !slices.Equal(l, due) {
		t.Fatalf("All(%v, %v, %v): %v, want %v", s, x, at, l, due)
	}
	if l := Next(s, x, at); !slices.EqualFunc(l, behind, state.Same) {
		t.Fatalf("Next(%v, %v, %v): %v, want %v", s, x, at, l, behind)
	}
	far := farByWords(x, at)
	if n := Far(x, at); n != far || (n == 0) != state.Goal(x, at) {
		t.Fatalf("Far(%v, %v): %d, want %d, and layer 5 tells %v", x, at, n, far, state.Goal(x, at))
	}
	for i, b := range behind {
		less := far - Far(x, b)
		if once && less > 1 {
			t.Fatalf("%v, %v: %v makes it less far by %d", x, at, due[i], less)
		}
		c.turned[less]++
	}
	c.far[far]++
	if len(due) == 0 {
		c.none++
	}
	if len(due) > 40 {
		c.many++
	}
}

// enough holds that each answer was due so often that its test means anything.
func (c *count) enough(t *testing.T, far, least int) {
	t.Helper()
	for kind, codes := range map[int][]api.Code{
		api.Place:   {api.ErrState, api.ErrRoom, api.ErrApart, api.ErrSpread, api.ErrFew, api.ErrMany, api.ErrBudget},
		api.Evict:   {api.ErrState, api.ErrRoom, api.ErrApart, api.ErrSpread, api.ErrFew, api.ErrBudget},
		api.Shift:   {api.ErrState, api.ErrRoom, api.ErrApart, api.ErrSpread, api.ErrFew, api.ErrMany, api.ErrBudget},
		api.Preempt: {api.ErrState, api.ErrRoom, api.ErrApart, api.ErrSpread, api.ErrFew, api.ErrMany, api.ErrBudget, api.ErrPrio},
	} {
		if c.told[kind] < least {
			t.Errorf("Kind %d was told %d times", kind, c.told[kind])
		}
		for _, code := range codes {
			if n := c.refused[[2]int{kind, int(code)}]; n < least {
				t.Errorf("Kind %d was refused by %v %d times", kind, code, n)
			}
		}
	}
	for n := range far + 1 {
		if c.far[n] < least {
			t.Errorf("it was far by %d %d times", n, c.far[n])
		}
	}
	for less := -1; less <= 1; less++ {
		if c.turned[less] < least {
			t.Errorf("a move made it less far by %d %d times", less, c.turned[less])
		}
	}
	if c.none < least {
		t.Errorf("no move could be done %d times", c.none)
	}
}

// All states of up to three pods, each of one of two loads, at one of two nodes,
// or at one that isn't there, or nowhere.
func TestAllSmallStates(t *testing.T) { // P18.1, P18.2, P18.4
	c := newCount()
	states := 1
	for pods := range 4 {
		for which := range states {
			for how := range 6 {
				s := api.Snapshot{
					Nodes: []api.Node{{Id: 2, Zone: 2, Cap: api.Vec{4}}, {Id: 1, Zone: 1, Cap: api.Vec{3}, Held: api.Vec{1}}},
					Loads: []api.Load{{Id: 1, Apart: how%2 == 0, Max: 1 + how%3/2}, {Id: 2, Skew: how % 3, Min: how / 4, Max: 3}},
				}
				x := api.Spec{Preempts: 1, Shifts: 1, Wants: []api.Want{leave(1), stay(2, 2), stay(3, 1)}[:how%4]}
				at := api.State{Preempts: which % 13 / 6, Shifts: which % 7 / 5}
				for i, rest := 0, which; i < pods; i, rest = i+1, rest/8 {
					at.Pods = append(at.Pods, api.Pod{Id: 3 - i, Load: 1 + rest%2, Prio: (i + how) % 3, Req: api.Vec{uint64(1 + how/3)}, Node: rest % 8 / 2})
				}
				c.hold(t, s, x, at, true)
			}
		}
		states *= 8
	}
	c.enough(t, 2, 10)
}

// drawing is a fixed order of numbers that looks like none.
type drawing uint64

func (d *drawing) below(n int) int {
	*d = *d*6364136223846793005 + 1442695040888963407
	return int(*d>>33) % n
}

// amount draws small ones; some, of wild draws, are so great that two of them
// go over.
func (d *drawing) amount(most int, wild bool) api.Vec {
	v := api.Vec{uint64(d.below(most)), uint64(d.below(most))}
	if wild && d.below(12) == 0 {
		v[2+d.below(2)] = []uint64{1 << 63, top, top / 2}[d.below(3)]
	}
	return v
}

// snapshot draws nodes and loads; of wild draws the nodes stand in no order, and
// Ids are there twice, or 0, or below.
func (d *drawing) snapshot(nodes int, wild bool) api.Snapshot {
	var s api.Snapshot
	wide, zones := 4+d.below(16), 1+d.below(3)
	for i := range 1 + d.below(nodes) {
		n := api.Node{Id: 1 + i + i/3, Zone: 1 + d.below(zones), Cap: d.amount(wide, false), Held: d.amount(2, false)}
		n.Cap[0], n.Cap[1] = n.Cap[0]+3, n.Cap[1]+3
		if wild {
			n.Id, n.Cap[2], n.Cap[3] = d.below(9)-1, top, top
		}
		s.Nodes = append(s.Nodes, n)
	}
	for i := range 3 {
		l := api.Load{Id: i + 1, Apart: d.below(4) == 0, Min: d.below(8) / 7, Max: 3 + d.below(8)}
		if d.below(3) == 0 {
			l.Skew = 1 + d.below(2)
		}
		if wild && d.below(8) == 0 {
			l = api.Load{Id: d.below(4), Skew: d.below(3) - 1, Min: d.below(3) - 1, Max: d.below(9)}
		}
		s.Loads = append(s.Loads, l)
	}
	return s
}

// pods draws some, at the snapshot's nodes or nowhere; of wild draws their Ids
// stand in no order, and twice, and some are at nodes that aren't there.
func (d *drawing) pods(s api.Snapshot, most int, wild bool) []api.Pod {
	var l []api.Pod
	nowhere := 2 + d.below(3)
	for i := range d.below(most + 1) {
		p := api.Pod{Id: 1 + i + i/2, Load: 1 + d.below(3), Prio: d.below(3), Req: d.amount(4, wild)}
		if d.below(nowhere) > 0 {
			p.Node = s.Nodes[d.below(len(s.Nodes))].Id
		}
		if wild {
			p.Id = d.below(12) - 1
			if d.below(10) == 0 {
				p.Node = d.below(12) - 2
			}
		}
		l = append(l, p)
	}
	return l
}

// spec draws wants of most of the pods, and budgets; of wild draws there are
// wants of pods that aren't there, and some stand twice.
func (d *drawing) spec(pods []api.Pod, wild bool) api.Spec {
	x := api.Spec{Preempts: d.below(3), Shifts: d.below(3)}
	for _, p := range pods {
		w := []api.Want{leave(p.Id), {Pod: p.Id, Stay: true, Req: d.amount(4, wild)}, {Pod: p.Id, Stay: true, Req: p.Req}}[d.below(3)]
		if wild && d.below(4) == 0 {
			w.Pod = d.below(14) - 2
		}
		if d.below(4) > 0 {
			x.Wants = append(x.Wants, w)
		}
	}
	return x
}

// Drawn clusters, of which each third may not be, and states, of which many
// aren't safe.
func TestAgainstTheWords(t *testing.T) { // P18.1, P18.2, P18.4, P1
	var d drawing
	c := newCount()
	for i := range 9_000 {
		wild, most := i%3 == 0, 6
		if i%10 == 0 {
			most = api.MaxPods
		}
		s := d.snapshot(most*2/3, wild)
		at := api.State{Pods: d.pods(s, most, wild), Preempts: d.below(3), Shifts: d.below(3)}
		x := d.spec(at.Pods, wild)
		if !wild {
			q := s
			q.Pods = at.Pods
			if err := cluster.Fair(q, x); err != nil {
				t.Fatalf("%v, %v: %v", q, x, err)
			}
		}
		c.hold(t, s, x, at, !wild)
	}
	c.enough(t, 3, 20)
	if c.many < 10 || c.refused[[2]int{api.Place, int(api.ErrOver)}] < 20 || c.refused[[2]int{api.Preempt, int(api.ErrOver)}] < 20 {
		t.Errorf("%d times there were many moves; so often a move was refused: %v", c.many, c.refused)
	}
}

// Walks of moves that All tells, drawn one by one: each is done by layer 12, and
// comes to the state that Next tells. It is never far by less than as many
// moves as lead to where all wants are met.
func TestWalksOfWhatIsTold(t *testing.T) { // P18.1, P18.2, P18.4
	var d drawing
	walked, met := 0, map[int]int{} // by how far it was at first
	for range 1_500 {
		s := d.snapshot(4, false)
		s.Pods = d.pods(s, 5, false)
		x := d.spec(s.Pods, false)
		x.Preempts, x.Shifts = 9, 9
		at := state.First(s)
		far := []int{Far(x, at)}
		for range 12 {
			l, states := All(s, x, at), Next(s, x, at)
			if len(l) != len(states) {
				t.Fatalf("%v, %v, %v: %d moves, and %d states", s, x, at, len(l), len(states))
			}
			if len(l) == 0 {
				break
			}
			i := d.below(len(l))
			behind, err := step.Do(s, x, at, l[i])
			if err != nil || !state.Same(behind, states[i]) {
				t.Fatalf("%v, %v, %v: behind %v is %v, %v, and told is %v", s, x, at, l[i], behind, err, states[i])
			}
			at = behind
			far = append(far, Far(x, at))
			walked++
			if state.Goal(x, at) {
				met[far[0]]++
				break
			}
		}
		for n := range far {
			if far[n] > len(far)-1-n+far[len(far)-1] {
				t.Fatalf("%v, %v: so far behind each move: %v", s, x, far)
			}
		}
	}
	if walked < 5_000 || met[1] < 20 || met[2] < 5 {
		t.Errorf("%d moves were walked; all wants were met so often, by how far it was: %v", walked, met)
	}
}
