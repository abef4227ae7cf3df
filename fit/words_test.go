package fit

import (
	"cmp"
	"math"
	"math/big"
	"slices"
	"testing"

	"dunnage/api"
	"dunnage/room"
	"dunnage/state"
	"dunnage/vec"
)

// The chapter's words, once more, in numbers without bounds, and without the
// layers below: of two amounts the greatest number of each is taken away, again
// and again; the best node is looked for by holding each against all others,
// and so is the pod that stands ahead.

// amount is an amount's numbers, or fewer of them.
type amount []*big.Int

func amountOf(v api.Vec) amount {
	var a amount
	for _, n := range v {
		a = append(a, new(big.Int).SetUint64(n))
	}
	return a
}

// by is what two amounts come to, number by number.
func (a amount) by(f func(z, x, y *big.Int) *big.Int, b amount) amount {
	var c amount
	for i := range a {
		c = append(c, f(new(big.Int), a[i], b[i]))
	}
	return c
}

func (a amount) plus(b amount) amount { return a.by((*big.Int).Add, b) }
func (a amount) less(b amount) amount { return a.by((*big.Int).Sub, b) }

func (a amount) belowZero() bool {
	return slices.ContainsFunc(a, func(n *big.Int) bool { return n.Sign() < 0 })
}

func (a amount) goesOver() bool {
	return slices.ContainsFunc(a, func(n *big.Int) bool { return n.BitLen() > 64 })
}

// greatest is where the greatest number of it stands.
func (a amount) greatest() int {
	at := 0
	for i, n := range a {
		if n.Cmp(a[at]) > 0 {
			at = i
		}
	}
	return at
}

func tighterByWords(a, b amount) bool {
	a, b = slices.Clone(a), slices.Clone(b)
	for len(a) > 0 {
		i, k := a.greatest(), b.greatest()
		if c := a[i].Cmp(b[k]); c != 0 {
			return c < 0
		}
		a, b = slices.Delete(a, i, i+1), slices.Delete(b, k, k+1)
	}
	return false
}

// leftByWords is what is left at the node that stands at this place; nil: the
// request doesn't fit there.
func leftByWords(s api.Snapshot, t api.State, at int, req api.Vec) amount {
	n := s.Nodes[at]
	for _, m := range slices.Backward(s.Nodes) {
		if m.Id == n.Id {
			n.Cap, n.Held = m.Cap, m.Held
		}
	}
	use := amountOf(api.Vec{})
	for _, p := range t.Pods {
		if p.Node == n.Id {
			use = use.plus(amountOf(p.Req))
		}
	}
	free := amountOf(n.Cap).less(amountOf(n.Held))
	left := free.less(use).less(amountOf(req))
	if use.goesOver() || free.belowZero() || left.belowZero() {
		return nil
	}
	return left
}

// fitsByWords are the places of the nodes where a request fits, and, of each
// place, what is left there.
func fitsByWords(s api.Snapshot, t api.State, req api.Vec) ([]int, []amount) {
	var at []int
	var left []amount
	for i := range s.Nodes {
		left = append(left, leftByWords(s, t, i, req))
		if left[i] != nil {
			at = append(at, i)
		}
	}
	return at, left
}

// bestByWords is the place of the best one of these, and how many are as good.
func bestByWords(at []int, left []amount) (int, int) {
	var tight []int
	for _, i := range at {
		if !slices.ContainsFunc(at, func(k int) bool { return tighterByWords(left[k], left[i]) }) {
			tight = append(tight, i)
		}
	}
	if len(tight) == 0 {
		return -1, 0
	}
	return tight[0], len(tight)
}

func aheadByWords(l []api.Pod, i, k int) bool {
	a, b := l[i], l[k]
	x, y := amountOf(a.Req), amountOf(b.Req)
	switch {
	case tighterByWords(x, y) || tighterByWords(y, x):
		return tighterByWords(y, x)
	case a.Prio != b.Prio:
		return a.Prio > b.Prio
	case a.Id != b.Id:
		return a.Id < b.Id
	}
	return i < k
}

// orderByWords puts each pod behind as many as are ahead of it.
func orderByWords(l []api.Pod) []api.Pod {
	due := make([]api.Pod, len(l))
	for i := range l {
		ahead := 0
		for k := range l {
			if k != i && aheadByWords(l, k, i) {
				ahead++
			}
		}
		due[ahead] = l[i]
	}
	return due
}

func packByWords(s api.Snapshot, t api.State, l []api.Pod, best bool) (api.State, int) {
	t.Pods = append([]api.Pod{}, t.Pods...)
	went := 0
	for _, p := range orderByWords(l) {
		i := slices.IndexFunc(t.Pods, func(q api.Pod) bool { return q.Id == p.Id })
		if i < 0 || t.Pods[i].Node != 0 {
			continue
		}
		at, left := fitsByWords(s, t, t.Pods[i].Req)
		if len(at) == 0 {
			continue
		}
		to := at[0]
		if best {
			to, _ = bestByWords(at, left)
		}
		t.Pods[i].Node = s.Nodes[to].Id
		if t.Pods[i].Node != 0 {
			went++
		}
	}
	return t, went
}

// count is how often each answer was due.
type count struct {
	fits   map[int]int    // by how many nodes
	atBest map[string]int // by what the best one is
	went   map[int]int    // by how many
	packs  map[string]int // by what kind of Pack it was
}

func newCount() count {
	return count{map[int]int{}, map[string]int{}, map[int]int{}, map[string]int{}}
}

// holdNodes holds Fits, First and Best against the words.
func (c count) holdNodes(t *testing.T, s api.Snapshot, p api.State, req api.Vec) {
	t.Helper()
	at, left := fitsByWords(s, p, req)
	var due []int
	for _, i := range at {
		due = append(due, s.Nodes[i].Id)
	}
	if l := Fits(s, p, req); !slices.Equal(l, due) {
		t.Fatalf("Fits(%v, %v, %v): %v, want %v", s, p, req, l, due)
	}
	first, best := 0, 0
	to, alike := bestByWords(at, left)
	if len(at) > 0 {
		first, best = due[0], s.Nodes[to].Id
	}
	if id := First(s, p, req); id != first {
		t.Fatalf("First(%v, %v, %v): %d, want %d", s, p, req, id, first)
	}
	if id := Best(s, p, req); id != best {
		t.Fatalf("Best(%v, %v, %v): %d, want %d", s, p, req, id, best)
	}
	c.fits[len(at)]++
	switch {
	case len(at) == 0:
		c.atBest["there is none"]++
	case first == best:
		c.atBest["the first one"]++
	default:
		c.atBest["another one"]++
	}
	if alike > 1 {
		c.atBest["several are as good"]++
	}
}

// holdPack holds Order and Pack against the words.
func (c count) holdPack(t *testing.T, s api.Snapshot, p api.State, l []api.Pod) {
	t.Helper()
	if got, due := Order(l), orderByWords(l); !slices.Equal(got, due) {
		t.Fatalf("Order(%v): %v, want %v", l, got, due)
	}
	var behind [2]api.State
	for i, best := range []bool{false, true} {
		due, many := packByWords(s, p, l, best)
		got, went := Pack(s, p, l, best)
		if !state.Same(got, due) || went != many {
			t.Fatalf("Pack(%v, %v, %v, %v): %v, %d, want %v, %d", s, p, l, best, got, went, due, many)
		}
		c.went[went]++
		behind[i] = got
	}
	if !state.Same(behind[0], behind[1]) {
		c.packs["best and first differ"]++
	}
	if own, _ := Pack(s, p, p.Pods, true); !state.Same(own, behind[1]) {
		c.packs["the list isn't the state's"]++
	}
	if room.Check(s, p) == nil {
		c.packs["room at all nodes"]++
	}
}

// enough holds that each answer was due so often that its test means anything.
func (c count) enough(t *testing.T, nodes, pods, least int) {
	t.Helper()
	for many := range nodes + 1 {
		if c.fits[many] < least {
			t.Errorf("%d nodes were due %d times", many, c.fits[many])
		}
	}
	for _, what := range []string{"there is none", "the first one", "another one", "several are as good"} {
		if c.atBest[what] < least {
			t.Errorf("of Best %q was due %d times", what, c.atBest[what])
		}
	}
	for many := range pods + 1 {
		if c.went[many] < least {
			t.Errorf("%d pods went %d times", many, c.went[many])
		}
	}
	for _, what := range []string{"best and first differ", "the list isn't the state's", "room at all nodes"} {
		if c.packs[what] < least {
			t.Errorf("%q was so %d times", what, c.packs[what])
		}
	}
}

// All amounts of these numbers, held against each other; and Tighter is an
// order: none is tighter than itself, of two at most one is, and with a third
// one they are of one mind.
func TestTighterOfAllSmallAmounts(t *testing.T) { // P14.1
	for _, numbers := range [][3]uint64{{0, 1, 2}, {0, 1 << 63, top}, {top - 2, top - 1, top}} {
		var all []api.Vec
		for i := range 81 {
			all = append(all, api.Vec{numbers[i%3], numbers[i/3%3], numbers[i/9%3], numbers[i/27]})
		}
		for _, a := range all {
			for _, b := range all {
				due := tighterByWords(amountOf(a), amountOf(b))
				if Tighter(a, b) != due || due && Tighter(b, a) {
					t.Fatalf("Tighter(%v, %v): %v", a, b, !due)
				}
				for _, c := range all {
					if Tighter(a, c) && !Tighter(a, b) && !Tighter(b, c) {
						t.Fatalf("%v, %v, %v", a, b, c)
					}
				}
			}
		}
	}
}

// All states of up to three pods, each of which asks for 0 to 2, or 4, and is
// nowhere, or at a node, of all nodes that have up to 4.
func TestAllSmallStates(t *testing.T) { // P14.1, P14.2
	c := newCount()
	for number := range 5 * 5 * 2 {
		s := nodes(api.Vec{uint64(number % 5)}, api.Vec{uint64(number / 5 % 5)})
		if number/25 == 1 {
			s.Nodes = append(s.Nodes, api.Node{Id: 3, Cap: api.Vec{3}})
		}
		all := 1
		for many := range 4 {
			for which := range all {
				var p api.State
				for i, rest := 0, which; i < many; i, rest = i+1, rest/8 {
					p.Pods = append(p.Pods, api.Pod{Id: 1 + i, Prio: i * 2 % 3, Req: api.Vec{uint64(1<<(rest%4)) / 2}, Node: rest / 4 % 2})
				}
				c.holdPack(t, s, p, p.Pods[min(many, which%3%2):])
				for req := range 4 {
					c.holdNodes(t, s, p, api.Vec{uint64(req)})
				}
			}
			all *= 8
		}
	}
	c.enough(t, 3, 3, 500)
}

// drawing is a fixed order of numbers that looks like none.
type drawing uint64

func (d *drawing) below(n int) int {
	*d = *d*6364136223846793005 + 1442695040888963407
	return int(*d>>33) % n
}

// amount draws numbers below this one; of wild draws, some that are as great
// as can be.
func (d *drawing) amount(below int, wild bool) api.Vec {
	var v api.Vec
	for i := range v {
		v[i] = uint64(d.below(below))
		if wild && d.below(12) == 0 {
			v[i] = []uint64{top, top - 1, 1 << 63, 1<<63 - 1}[d.below(4)]
		}
	}
	return v
}

// snapshot draws nodes; of wild draws Ids are there twice, or 0, or below, and
// in no order, and what is held may be more than there is.
func (d *drawing) snapshot(wild bool) api.Snapshot {
	var s api.Snapshot
	below := 2 + d.below(9)
	for i := range d.below(api.MaxNodes + 1) {
		n := api.Node{Id: i + 1, Zone: 1 + d.below(3), Cap: d.amount(below, wild), Held: d.amount(2, false)}
		n.Cap = vec.Max(n.Cap, n.Held)
		if wild {
			n.Id, n.Held = d.below(7)-1, d.amount(3, d.below(3) == 0)
		}
		s.Nodes = append(s.Nodes, n)
	}
	return s
}

// state draws pods, most of them nowhere, or at a node of those of a snapshot.
func (d *drawing) state(s api.Snapshot, wild bool) api.State {
	t := api.State{Preempts: d.below(4), Shifts: d.below(4)}
	below := 1 + d.below(5)
	for i := range d.below(api.MaxPods + 1) {
		p := api.Pod{Id: i + 1, Load: d.below(3), Prio: d.below(3), Req: d.amount(below, wild)}
		if len(s.Nodes) > 0 && d.below(3) == 0 {
			p.Node = s.Nodes[d.below(len(s.Nodes))].Id
		}
		if wild {
			p.Id = d.below(14) - 2
			p.Prio = cmp.Or(d.below(3), []int{math.MinInt, math.MaxInt, -1}[d.below(3)])
		}
		t.Pods = append(t.Pods, p)
	}
	return t
}

// list draws pods of a state, in any order, and some other ones; of some
// another Req, Prio or Node is told than the state has.
func (d *drawing) list(t api.State) []api.Pod {
	var l []api.Pod
	for range d.below(16) {
		p := api.Pod{Id: d.below(16), Prio: d.below(3), Req: d.amount(3, false)}
		if len(t.Pods) > 0 && d.below(8) > 0 {
			p = t.Pods[d.below(len(t.Pods))]
		}
		switch d.below(8) {
		case 0:
			p.Req = d.amount(5, d.below(4) == 0)
		case 1:
			p.Prio = d.below(5)
		case 2:
			p.Node = d.below(3)
		}
		l = append(l, p)
	}
	return l
}

func TestAgainstTheWords(t *testing.T) { // P14.1, P14.2, P1
	var d drawing
	c := newCount()
	for i := range 6_000 {
		wild := i%3 == 0
		s := d.snapshot(wild)
		p := d.state(s, wild)
		l := d.list(p)
		if i%4 == 0 {
			l = p.Pods
		}
		c.holdPack(t, s, p, l)
		for range 4 {
			c.holdNodes(t, s, p, d.amount(1+d.below(4), wild))
		}
		a, b := d.amount(3, wild), d.amount(3, wild)
		if Tighter(a, b) != tighterByWords(amountOf(a), amountOf(b)) {
			t.Fatalf("Tighter(%v, %v)", a, b)
		}
	}
	c.enough(t, api.MaxNodes, 8, 20)
}

// Where there was room at all nodes there is behind a Pack, too; and a node
// that had a rest has one.
func TestRoomIsKept(t *testing.T) { // P14.4
	var d drawing
	rooms, went := 0, 0
	for i := range 20_000 {
		wild := i%5 == 0
		s := d.snapshot(wild)
		p := d.state(s, wild)
		l := p.Pods
		if i%2 == 0 {
			l = d.list(p)
		}
		behind, many := Pack(s, p, l, i%4 < 2)
		for _, n := range s.Nodes {
			if _, err := room.Rest(s, p, n.Id); err != nil {
				continue
			}
			if _, err := room.Rest(s, behind, n.Id); err != nil {
				t.Fatalf("%v, %v: behind a Pack of %v node %d has no rest: %v", s, p, l, n.Id, err)
			}
		}
		if room.Check(s, p) == nil {
			if err := room.Check(s, behind); err != nil {
				t.Fatalf("%v, %v: behind a Pack of %v: %v", s, p, l, err)
			}
			rooms++
			went += many
		}
	}
	if rooms < 5_000 || went < 5_000 {
		t.Errorf("there was room at all nodes %d times, and %d pods went then", rooms, went)
	}
}

// None of Fits leaves something tighter than Best, and those ahead of it all
// leave something that is less tight.
func TestBestIsTight(t *testing.T) { // P14.4
	var d drawing
	held := 0
	for range 20_000 {
		s := d.snapshot(false)
		p := d.state(s, false)
		req := d.amount(3, false)
		left := func(id int) api.Vec {
			rest, err := room.Rest(s, p, id)
			if err != nil || !vec.Fits(req, rest) {
				t.Fatalf("%v, %v: %v doesn't fit at node %d", s, p, req, id)
			}
			rest, _ = vec.Sub(rest, req)
			return rest
		}
		l, best := Fits(s, p, req), Best(s, p, req)
		if len(l) == 0 {
			continue
		}
		at := slices.Index(l, best)
		if at < 0 {
			t.Fatalf("%v, %v: %v fits at %v, and Best is %d", s, p, req, l, best)
		}
		for i, id := range l {
			if Tighter(left(id), left(best)) || i < at && !Tighter(left(best), left(id)) {
				t.Fatalf("%v, %v: of %v Best is %d, and node %d leaves %v", s, p, req, best, id, left(id))
			}
			held++
		}
	}
	if held < 20_000 {
		t.Errorf("%d nodes were held against the best one", held)
	}
}
