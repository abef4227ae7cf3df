package key

import (
	"math/big"
	"slices"
	"testing"

	"dunnage/api"
	"dunnage/state"
)

// The chapter's words, once more, without the layers below, by numbers without
// bounds.

// numbersByWords are the numbers of a state's key.
func numbersByWords(at api.State) []*big.Int {
	var l []*big.Int
	integer := func(n int) {
		b := big.NewInt(int64(n))
		if b.Sign() < 0 {
			b.Add(b, new(big.Int).Lsh(big.NewInt(1), 64))
		}
		l = append(l, b)
	}
	integer(len(at.Pods))
	for _, p := range at.Pods {
		integer(p.Id)
		integer(p.Load)
		integer(p.Prio)
		for _, n := range p.Req {
			l = append(l, new(big.Int).SetUint64(n))
		}
		integer(p.Node)
	}
	integer(at.Preempts)
	integer(at.Shifts)
	return l
}

// keyByWords is a state's key: of each number its digits by 128, the lowest one
// first, and 128 more each but the last one.
func keyByWords(at api.State) []byte {
	var b []byte
	for _, n := range numbersByWords(at) {
		digit, base := new(big.Int), big.NewInt(128)
		for n.Cmp(base) >= 0 {
			n.DivMod(n, base, digit)
			b = append(b, byte(128+digit.Int64()))
		}
		b = append(b, byte(n.Int64()))
	}
	return b
}

// isLess tells whether of two keys the first one is less, byte by byte.
func isLess(a, b []byte) bool {
	for i := range a {
		if i >= len(b) || a[i] > b[i] {
			return false
		}
		if a[i] < b[i] {
			return true
		}
	}
	return len(a) < len(b)
}

// leastByWords is the first place whose key none is less than.
func leastByWords(l []api.State) int {
	for i := range l {
		beaten := false
		for j := range l {
			beaten = beaten || isLess(keyByWords(l[j]), keyByWords(l[i]))
		}
		if !beaten {
			return i
		}
	}
	return -1
}

// alike tells whether two states are, number by number.
func alike(a, b api.State) bool {
	if len(a.Pods) != len(b.Pods) || a.Preempts != b.Preempts || a.Shifts != b.Shifts {
		return false
	}
	for i, p := range a.Pods {
		q := b.Pods[i]
		if p.Id != q.Id || p.Load != q.Load || p.Prio != q.Prio || p.Req != q.Req || p.Node != q.Node {
			return false
		}
	}
	return true
}

// counted is how often what was held was of which kind.
type counted struct{ alike, other, first, last, between int }

// hold holds Of of two against the words, and their keys against each other.
func (c *counted) hold(t *testing.T, a, b api.State) {
	t.Helper()
	k, other := Of(a), Of(b)
	if k != string(keyByWords(a)) || k != Of(a) {
		t.Fatalf("%v: the key is % x, want % x", a, k, keyByWords(a))
	}
	if alike(a, b) != state.Same(a, b) || (k == other) != alike(a, b) {
		t.Fatalf("%v and %v: the keys are % x and % x", a, b, k, other)
	}
	if k == other {
		c.alike++
	} else {
		c.other++
	}
}

// holdLeast holds Least against the words.
func (c *counted) holdLeast(t *testing.T, l []api.State) {
	t.Helper()
	place := Least(l)
	if place != leastByWords(l) || place != Least(l) {
		t.Fatalf("%v: the least is at %d, want %d", l, place, leastByWords(l))
	}
	switch {
	case len(l) < 3:
	case place == 0:
		c.first++
	case place == len(l)-1:
		c.last++
	default:
		c.between++
	}
}

func (c *counted) enough(t *testing.T, many int) {
	t.Helper()
	if min(c.alike, c.other) < many {
		t.Errorf("%d were alike, and %d weren't", c.alike, c.other)
	}
}

func (c *counted) enoughLeast(t *testing.T, many int) {
	t.Helper()
	if min(c.first, c.last, c.between) < many {
		t.Errorf("the least was %d times the first, %d times the last, %d times between", c.first, c.last, c.between)
	}
}

// All states of at most two pods whose numbers are 0 or 1, but for the Req's
// that are the same; no two of them have one key.
func TestAllSmallStates(t *testing.T) { // P17.1, P17.2
	keys := map[string]int{}
	var c counted
	var l []api.State
	for pods := range 3 {
		for bits := range 1 << (2 + 6*pods) {
			at := api.State{Preempts: bits & 1, Shifts: bits >> 1 & 1}
			for rest := bits >> 2; len(at.Pods) < pods; rest >>= 6 {
				p := api.Pod{Id: rest & 1, Load: rest >> 1 & 1, Prio: rest >> 2 & 1, Node: rest >> 3 & 1}
				p.Req = api.Vec{uint64(rest >> 4 & 1), 1, 0, uint64(rest >> 5 & 1)}
				at.Pods = append(at.Pods, p)
			}
			c.hold(t, at, at)
			keys[Of(at)]++
			l = append(l, at)
		}
	}
	if len(keys) != len(l) || len(l) != 1<<2+1<<8+1<<14 {
		t.Errorf("%d states have %d keys", len(l), len(keys))
	}
	for i := 0; i < len(l); i += 7 { // some of them against others
		c.hold(t, l[i], l[i*31%len(l)])
		c.holdLeast(t, []api.State{l[i], l[i*13%len(l)], l[i*29%len(l)]})
	}
	c.enough(t, 1000)
	c.enoughLeast(t, 100)
}

// drawing is a fixed order of numbers that looks like none.
type drawing uint64

func (d *drawing) below(n int) int {
	*d = *d*6364136223846793005 + 1442695040888963407
	return int(*d>>33) % n
}

// amount draws small ones, of which many are the same, and such of all lengths.
func (d *drawing) amount() uint64 {
	if d.below(3) > 0 {
		return uint64(d.below(4))
	}
	n := uint64(d.below(1<<30))<<34 | uint64(d.below(1<<30))<<4 | uint64(d.below(16))
	return n >> d.below(64)
}

// integer draws such, and those below 0.
func (d *drawing) integer() int {
	n := int(d.amount())
	if d.below(8) == 0 {
		return -n
	}
	return n
}

func (d *drawing) pod() api.Pod {
	p := api.Pod{Id: d.integer(), Load: d.integer(), Prio: d.integer(), Node: d.integer()}
	for i := range p.Req {
		p.Req[i] = d.amount()
	}
	return p
}

func (d *drawing) state() api.State {
	at := api.State{Preempts: d.integer(), Shifts: d.integer()}
	for range d.below(api.MaxPods + 1) {
		at.Pods = append(at.Pods, d.pod())
	}
	return at
}

// near draws a state that is like this one, or differs in as little as can be:
// in one number, by one or by one bit; in how many pods there are; in their
// order; in a pod that is there in another one's place.
func (d *drawing) near(at api.State) api.State {
	many := len(at.Pods)
	at.Pods = slices.Clone(at.Pods)
	switch how := d.below(8); {
	case how == 0:
		return at
	case how == 1 || many == 0:
		at.Pods = slices.Insert(at.Pods, d.below(many+1), api.Pod{})
	case how == 2:
		i := d.below(many)
		at.Pods = slices.Delete(at.Pods, i, i+1)
	case how == 3:
		i, j := d.below(many), d.below(many)
		at.Pods[i], at.Pods[j] = at.Pods[j], at.Pods[i]
	case how == 4:
		at.Pods[d.below(many)] = at.Pods[d.below(many)]
	case how == 5:
		at.Preempts, at.Shifts = at.Shifts, at.Preempts
	default:
		return d.one(at)
	}
	return at
}

// one draws a state that differs in one number.
func (d *drawing) one(at api.State) api.State {
	pod, place := d.below(len(at.Pods)), 1+d.below(10)
	n := numbersByWords(at)[1+8*pod+place-1].Uint64()
	if place > 8 {
		n = numbersByWords(at)[1+8*len(at.Pods)+place-9].Uint64()
	}
	if d.below(2) == 0 {
		return set(at, pod, place, n+1)
	}
	return set(at, pod, place, n^1<<d.below(64))
}

// Two that differ in one number alone, whichever it is, have other keys.
func TestOneNumberMakesAnotherKey(t *testing.T) { // P17.2
	var d drawing
	var c counted
	for range 10_000 {
		at := d.state()
		at.Pods = append(at.Pods, d.pod())
		other := d.one(at)
		c.hold(t, at, other)
		c.holdLeast(t, []api.State{at, other, d.near(at), at})
	}
	if c.alike > 0 || c.other != 10_000 {
		t.Errorf("%d of those that differ in one number are alike", c.alike)
	}
}

// Drawn states, and such as are near them.
func TestAgainstTheWords(t *testing.T) { // P17.1, P17.2
	var d drawing
	var c counted
	for range 20_000 {
		at := d.state()
		c.hold(t, at, d.near(at))
		c.hold(t, at, d.state())
		other := d.near(at)
		c.hold(t, other, d.near(other))
	}
	c.enough(t, 5_000)
	for range 5_000 {
		var l []api.State
		for range d.below(6) {
			l = append(l, d.state())
			for d.below(2) == 0 {
				l = append(l, d.near(l[d.below(len(l))]))
			}
		}
		c.holdLeast(t, l)
	}
	c.enoughLeast(t, 500)
}

// No two of many drawn states have one key, but for those that are alike.
func TestManyKeys(t *testing.T) { // P17.2
	var d drawing
	keys := map[string]api.State{}
	again := 0
	for range 50_000 {
		at := api.State{Preempts: d.below(3), Shifts: d.integer()}
		for range d.below(3) {
			at.Pods = append(at.Pods, api.Pod{Id: 1 + d.below(2), Load: d.below(2), Node: d.below(300)})
		}
		was, ok := keys[Of(at)]
		if ok && !alike(was, at) {
			t.Fatalf("%v and %v have one key", was, at)
		}
		if ok {
			again++
		}
		keys[Of(at)] = at
	}
	if again < 1_000 || len(keys) < 10_000 {
		t.Errorf("%d keys, and %d times one was there already", len(keys), again)
	}
}
