package victim

import (
	"cmp"
	"math"
	"math/big"
	"slices"
	"testing"

	"dunnage/api"
	"dunnage/cluster"
	"dunnage/prior"
	"dunnage/state"
	"dunnage/vec"
)

// The chapter's words, once more, in numbers without bounds, and without the
// layers below: the node's four numbers are counted one by one; who makes way
// is told by the places of pods in the state, and who stays is crossed out.

// requestByWords is what a pod asks for; false: it isn't there.
func requestByWords(x api.Spec, t api.State, pod int) (api.Vec, bool) {
	i := slices.IndexFunc(t.Pods, func(p api.Pod) bool { return p.Id == pod })
	if i < 0 {
		return api.Vec{}, false
	}
	k := slices.IndexFunc(x.Wants, func(w api.Want) bool { return w.Pod == pod })
	if k >= 0 && x.Wants[k].Stay {
		return x.Wants[k].Req, true
	}
	return t.Pods[i].Req, true
}

func nodeByWords(s api.Snapshot, node int) (api.Node, bool) {
	i := slices.IndexFunc(s.Nodes, func(n api.Node) bool { return n.Id == node })
	if i < 0 {
		return api.Node{}, false
	}
	return s.Nodes[i], true
}

func number(n uint64) *big.Int { return new(big.Int).SetUint64(n) }

// fitsByWords tells whether a request fits at a node in one of its four
// numbers, beside those that stay.
func fitsByWords(n api.Node, stay []api.Pod, req api.Vec, i int) bool {
	use := new(big.Int)
	for _, p := range stay {
		use.Add(use, number(p.Req[i]))
	}
	if use.BitLen() > 64 || n.Held[i] > n.Cap[i] {
		return false
	}
	for _, n := range []uint64{n.Held[i], req[i]} {
		use.Add(use, number(n))
	}
	return use.Cmp(number(n.Cap[i])) <= 0
}

func makesByWords(s api.Snapshot, x api.Spec, t api.State, pod, node int, l []int) bool {
	req, isPod := requestByWords(x, t, pod)
	n, isNode := nodeByWords(s, node)
	if !isPod || !isNode {
		return false
	}
	var stay []api.Pod
	for _, p := range t.Pods {
		// Nowhere is no node.
		if p.Node == node && (node == 0 || !slices.Contains(l, p.Id)) {
			stay = append(stay, p)
		}
	}
	for i := range req {
		if !fitsByWords(n, stay, req, i) {
			return false
		}
	}
	return true
}

// victimsByWords puts each victim behind as many as are ahead of it.
func victimsByWords(t api.State, pod, node int) []int {
	k := slices.IndexFunc(t.Pods, func(p api.Pod) bool { return p.Id == pod })
	if k < 0 || node == 0 {
		return nil
	}
	ahead := func(a, b, i, j int) bool {
		p, q := t.Pods[a], t.Pods[b]
		if p.Prio != q.Prio {
			return p.Prio < q.Prio
		}
		return p.Id < q.Id || p.Id == q.Id && i < j
	}
	var at []int
	for i, p := range t.Pods {
		if p.Node == node && p.Prio < t.Pods[k].Prio {
			at = append(at, i)
		}
	}
	l := make([]int, len(at))
	for i := range at {
		place := 0
		for j := range at {
			if ahead(at[j], at[i], j, i) {
				place++
			}
		}
		l[place] = t.Pods[at[i]].Id
	}
	return l
}

// chooseByWords also tells as how many it took ahead of the leaving out.
func chooseByWords(s api.Snapshot, x api.Spec, t api.State, pod, node int) ([]int, int, error) {
	_, isPod := requestByWords(x, t, pod)
	_, isNode := nodeByWords(s, node)
	if !isPod || !isNode {
		return nil, 0, api.ErrNone
	}
	all := victimsByWords(t, pod, node)
	if !makesByWords(s, x, t, pod, node, all) {
		return nil, 0, api.ErrRoom
	}
	many := len(all)
	for many > 0 && makesByWords(s, x, t, pod, node, all[:many-1]) {
		many--
	}
	out := map[int]int{}
	in := func() []int {
		var l []int
		for i, id := range all[:many] {
			if out[i] == 0 {
				l = append(l, id)
			}
		}
		return l
	}
	for i := range many {
		last := many - 1 - i
		out[last] = 1
		if !makesByWords(s, x, t, pod, node, in()) {
			out[last] = 0
		}
	}
	return in(), many, nil
}

func whereByWords(s api.Snapshot, x api.Spec, t api.State, pod int) (int, []int, bool) {
	var lists [][]int
	var found []bool
	for _, n := range s.Nodes {
		l, _, err := chooseByWords(s, x, t, pod, n.Id)
		lists, found = append(lists, l), append(found, err == nil)
	}
	for i := range lists {
		best := found[i]
		for k := range lists {
			fewer := len(lists[k]) < len(lists[i]) || len(lists[k]) == len(lists[i]) && k < i
			best = best && !(found[k] && fewer)
		}
		if best {
			return s.Nodes[i].Id, lists[i], true
		}
	}
	return 0, nil, false
}

// count is how often each answer was due.
type count struct {
	chosen map[int]int    // by how many
	what   map[string]int // by what kind of answer it was
}

func newCount() count { return count{map[int]int{}, map[string]int{}} }

// holdMakes holds Makes against the words.
func (c count) holdMakes(t *testing.T, s api.Snapshot, x api.Spec, p api.State, pod, node int, l []int) {
	t.Helper()
	due := makesByWords(s, x, p, pod, node, l)
	if Makes(s, x, p, pod, node, l) != due {
		t.Fatalf("Makes(%v, %v, %v, %d, %d, %v): %v", s, x, p, pod, node, l, !due)
	}
	switch {
	case !due:
		c.what["no room is made"]++
	case makesByWords(s, x, p, pod, node, nil):
		c.what["there is room"]++
	default:
		c.what["room is made"]++
	}
}

// holdChoose holds Choose against the words.
func (c count) holdChoose(t *testing.T, s api.Snapshot, x api.Spec, p api.State, pod, node int) {
	t.Helper()
	due, many, fault := chooseByWords(s, x, p, pod, node)
	l, err := Choose(s, x, p, pod, node)
	if !slices.Equal(l, due) || err != fault {
		t.Fatalf("Choose(%v, %v, %v, %d, %d): %v, %v, want %v, %v", s, x, p, pod, node, l, err, due, fault)
	}
	switch fault {
	case api.ErrNone:
		c.what["not there"]++
		return
	case api.ErrRoom:
		c.what["no room"]++
		return
	}
	c.chosen[len(due)]++
	if len(due) < many {
		c.what["some are left out"]++
	}
	if len(due)+1 < many {
		c.what["several are left out"]++
	}
}

// holdWhere holds Where against the words.
func (c count) holdWhere(t *testing.T, s api.Snapshot, x api.Spec, p api.State, pod int) {
	t.Helper()
	node, due, found := whereByWords(s, x, p, pod)
	at, l, ok := Where(s, x, p, pod)
	if at != node || !slices.Equal(l, due) || ok != found {
		t.Fatalf("Where(%v, %v, %v, %d): %d, %v, %v, want %d, %v, %v", s, x, p, pod, at, l, ok, node, due, found)
	}
	switch {
	case !found:
		c.what["nowhere"]++
	case len(due) == 0:
		c.what["where none is chosen"]++
	case node == s.Nodes[0].Id:
		c.what["at the first node"]++
	default:
		c.what["at another node"]++
	}
}

// enough holds that each answer was due so often that its test means anything.
func (c count) enough(t *testing.T, chosen, least int, but ...string) {
	t.Helper()
	for many := range chosen + 1 {
		if c.chosen[many] < least {
			t.Errorf("%d were chosen %d times", many, c.chosen[many])
		}
	}
	for _, what := range []string{
		"no room is made", "there is room", "room is made", "not there", "no room", "some are left out",
		"several are left out", "nowhere", "where none is chosen", "at the first node", "at another node",
	} {
		if c.what[what] < least && !slices.Contains(but, what) {
			t.Errorf("%q was so %d times", what, c.what[what])
		}
	}
}

// All states of three pods that are at one of two nodes, or nowhere, use 0 to
// 2, and are of Prio 0 or 1, beside one of Prio 1 that asks for 1 or 2, of
// nodes that have 0 to 4.
func TestAllSmallStates(t *testing.T) { // P15.1, P15.2
	c := newCount()
	for capacity := range 15 {
		s := api.Snapshot{Nodes: []api.Node{{Id: 1, Cap: api.Vec{uint64(capacity % 5)}}, {Id: 2, Cap: api.Vec{uint64(capacity / 5)}}}}
		for which := range 18 * 18 * 18 {
			var p api.State
			for i, rest := 0, which; i < 3; i, rest = i+1, rest/18 {
				p.Pods = append(p.Pods, api.Pod{Id: 1 + i, Node: rest % 3, Prio: rest / 3 % 2, Req: api.Vec{uint64(rest / 6 % 3)}})
			}
			p.Pods = append(p.Pods, api.Pod{Id: 4, Prio: 1, Req: api.Vec{1}})
			x := api.Spec{Wants: []api.Want{{Pod: 4, Stay: which%2 == 0, Req: api.Vec{2}}}}
			node := 1 + which%3
			c.holdChoose(t, s, x, p, 4, node)
			c.holdChoose(t, s, x, p, 1, 2)
			c.holdWhere(t, s, x, p, 4)
			if which%5 == 0 {
				c.holdMakes(t, s, x, p, 4, node, [][]int{nil, {1}, {1, 2}, {3, 5}, {3, 1, 2}}[which/5%5])
			}
		}
	}
	c.enough(t, 2, 200, "several are left out")
}

// drawing is a fixed order of numbers that looks like none.
type drawing uint64

func (d *drawing) below(n int) int {
	*d = *d*6364136223846793005 + 1442695040888963407
	return int(*d>>33) % n
}

// amount draws numbers below this one; of wild draws, some that are as great
// as can be.
func (d *drawing) amount(below int, wild bool) api.Vec {
	var v api.Vec
	for i := range v {
		v[i] = uint64(d.below(below))
		if wild && d.below(24) == 0 {
			v[i] = []uint64{top, top - 1, 1 << 63, 1<<63 - 1}[d.below(4)]
		}
	}
	return v
}

// snapshot draws nodes; of wild draws Ids are there twice, or 0, or below, and
// in no order, and what is held may be more than there is.
func (d *drawing) snapshot(wild bool) api.Snapshot {
	s := api.Snapshot{Loads: []api.Load{{Id: 1, Max: 12}}}
	below := 2 + d.below(9)
	for i := range 1 + d.below(4) {
		n := api.Node{Id: i + 1, Zone: 1 + d.below(3), Held: d.amount(2, false)}
		n.Cap = vec.Max(n.Held, d.amount(below, wild))
		if wild {
			n.Id = d.below(5) - 1
			if d.below(8) == 0 {
				n.Held = d.amount(4, true)
			}
		}
		s.Nodes = append(s.Nodes, n)
	}
	return s
}

// state draws pods, most of them somewhere.
func (d *drawing) state(s api.Snapshot, wild bool) api.State {
	t := api.State{Preempts: d.below(4), Shifts: d.below(4)}
	below, prios := 1+d.below(4), 1+d.below(6)
	for i := range d.below(api.MaxPods + 1) {
		p := api.Pod{Id: i + 1, Load: 1, Prio: d.below(prios), Req: d.amount(below, wild)}
		if d.below(5) > 0 {
			p.Node = s.Nodes[d.below(len(s.Nodes))].Id
		}
		if wild {
			p.Id = d.below(12) - 2
			p.Prio = cmp.Or(d.below(3), []int{math.MinInt, math.MaxInt, -1}[d.below(3)])
		}
		t.Pods = append(t.Pods, p)
	}
	return t
}

// spec draws wants of some of a state's pods; of wild draws in any order, and
// of some more than once.
func (d *drawing) spec(t api.State, wild bool) api.Spec {
	x := api.Spec{Preempts: d.below(4), Shifts: d.below(4)}
	for _, p := range t.Pods {
		if d.below(2) == 0 {
			continue
		}
		w := api.Want{Pod: p.Id, Stay: d.below(3) > 0}
		if w.Stay || wild {
			w.Req = d.amount(6, wild)
		}
		if wild && d.below(4) == 0 {
			w.Pod = t.Pods[d.below(len(t.Pods))].Id
		}
		x.Wants = append(x.Wants, w)
	}
	return x
}

// ids draws some Ids, most of them of pods of a state.
func (d *drawing) ids(t api.State) []int {
	var l []int
	for range d.below(8) {
		id := d.below(20) - 3
		if len(t.Pods) > 0 && d.below(5) > 0 {
			id = t.Pods[d.below(len(t.Pods))].Id
		}
		l = append(l, id)
	}
	return l
}

// node draws a node's Id.
func (d *drawing) node(s api.Snapshot) int {
	if d.below(12) == 0 {
		return d.below(7) - 1
	}
	return s.Nodes[d.below(len(s.Nodes))].Id
}

func TestAgainstTheWords(t *testing.T) { // P15.1, P15.2, P1
	var d drawing
	c := newCount()
	for i := range 20_000 {
		wild := i%3 == 0
		s := d.snapshot(wild)
		p := d.state(s, wild)
		x := d.spec(p, wild)
		if !wild {
			q := s
			q.Pods = p.Pods
			if err := cluster.Fair(q, x); err != nil {
				t.Fatalf("%v, %v: %v", q, x, err)
			}
		}
		for range 4 {
			pod := d.below(14) - 1
			c.holdMakes(t, s, x, p, pod, d.node(s), d.ids(p))
			c.holdChoose(t, s, x, p, pod, d.node(s))
			c.holdWhere(t, s, x, p, pod)
		}
	}
	c.enough(t, 3, 40)
}

// The chosen ones make room; without any one of them the others don't; and
// each of them is one of the victims, in their order.
func TestTheChosenOnes(t *testing.T) { // P15.4
	var d drawing
	often := map[int]int{}
	for i := range 40_000 {
		wild := i%4 == 0
		s := d.snapshot(wild)
		p := d.state(s, wild)
		x := d.spec(p, wild)
		for range 4 {
			pod, node := d.below(14)-1, d.node(s)
			l, err := Choose(s, x, p, pod, node)
			if err != nil {
				continue
			}
			often[len(l)]++
			if !Makes(s, x, p, pod, node, l) {
				t.Fatalf("%v, %v, %v: for %d at %d %v make no room", s, x, p, pod, node, l)
			}
			for k := range l {
				if others := slices.Concat(l[:k], l[k+1:]); Makes(s, x, p, pod, node, others) {
					t.Fatalf("%v, %v, %v: for %d at %d %v make room, and so do %v", s, x, p, pod, node, l, others)
				}
			}
			rest := prior.Victims(p, pod, node)
			for _, id := range l {
				at := slices.Index(rest, id)
				if at < 0 {
					t.Fatalf("%v, %v: of %v for %d at %d %d isn't a victim, or out of order", s, p, l, pod, node, id)
				}
				rest = rest[at+1:]
			}
		}
	}
	for many := range 5 {
		if often[many] < 40 {
			t.Errorf("%d were chosen %d times", many, often[many])
		}
	}
}

// With the chosen ones nowhere a pod that is nowhere can be placed, and its
// node has room then.
func TestThereIsRoomThen(t *testing.T) { // P15.4
	var d drawing
	held := 0
	for range 40_000 {
		s := d.snapshot(false)
		p := d.state(s, false)
		x := d.spec(p, false)
		pod := 1 + d.below(12)
		node, l, ok := Where(s, x, p, pod)
		q, isPod := state.Pod(p, pod)
		if !ok || !isPod || q.Node != 0 {
			continue
		}
		for _, id := range l {
			behind, err := state.Make(s, x, p, api.Move{Kind: api.Evict, Pod: id})
			if err != nil {
				t.Fatalf("%v, %v: %d can't be evicted: %v", s, p, id, err)
			}
			p = behind
		}
		behind, err := state.Make(s, x, p, api.Move{Kind: api.Place, Pod: pod, Node: node})
		if err != nil || !makesByWords(s, api.Spec{}, api.State{Pods: append(behind.Pods, api.Pod{Id: 99})}, 99, node, nil) {
			t.Fatalf("%v, %v, %v: %d has no room at %d: %v", s, x, p, pod, node, err)
		}
		held++
	}
	if held < 1_000 {
		t.Errorf("%d were placed", held)
	}
}
