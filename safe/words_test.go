package safe

import (
	"errors"
	"math"
	"math/big"
	"reflect"
	"slices"
	"testing"

	"dunnage/api"
	"dunnage/state"
)

// The chapter's words, once more, without the layers below: each of the five
// is counted anew, by numbers without bounds, and what is found is laid into
// five drawers; the first one that isn't empty is what Why is to tell.

// drawers are what is wrong by each of the five checks; nil: nothing.
type drawers [5]error

func byWords(s api.Snapshot, x api.Spec, t api.State) drawers {
	var d drawers
	for i := len(s.Nodes) - 1; i >= 0; i-- { // from the last one on: the first one at fault stays
		if c := roomByWords(s, t, s.Nodes[i].Id); c != 0 {
			d[0] = &api.Spot{At: i, Err: c}
		}
	}
	for i := len(t.Pods) - 1; i > 0; i-- {
		if apartByWords(s, t.Pods[:i], t.Pods[i]) {
			d[1] = &api.Spot{At: i, Err: api.ErrApart}
		}
	}
	for i := len(s.Loads) - 1; i >= 0; i-- {
		l := s.Loads[i]
		if l.Skew > 0 && skewByWords(s, t, l.Id) > l.Skew {
			d[2] = &api.Spot{At: i, Err: api.ErrSpread}
		}
		size := len(slices.DeleteFunc(slices.Clone(t.Pods), func(p api.Pod) bool { return p.Load != l.Id || p.Node == 0 }))
		if size > l.Max {
			d[3] = &api.Spot{At: i, Err: api.ErrMany}
		}
		if size < l.Min {
			d[3] = &api.Spot{At: i, Err: api.ErrFew}
		}
	}
	if t.Preempts > x.Preempts || t.Shifts > x.Shifts {
		d[4] = api.ErrBudget
	}
	return d
}

// nodeByWords is the first node of an Id.
func nodeByWords(s api.Snapshot, id int) (api.Node, bool) {
	for _, n := range s.Nodes {
		if n.Id == id {
			return n, true
		}
	}
	return api.Node{}, false
}

// roomByWords is what is wrong with a node's room; 0: nothing. A sum that goes
// over in any of the four is told ahead of room that there isn't.
func roomByWords(s api.Snapshot, t api.State, id int) api.Code {
	n, _ := nodeByWords(s, id)
	fault := api.Code(0)
	for k := range 4 {
		use := new(big.Int)
		for _, p := range t.Pods {
			if p.Node == id {
				use.Add(use, new(big.Int).SetUint64(p.Req[k]))
			}
		}
		if !use.IsUint64() {
			return api.ErrOver
		}
		use.Add(use, new(big.Int).SetUint64(n.Held[k]))
		if use.Cmp(new(big.Int).SetUint64(n.Cap[k])) > 0 {
			fault = api.ErrRoom
		}
	}
	return fault
}

// apartByWords tells whether one may not be together with one of those ahead.
func apartByWords(s api.Snapshot, ahead []api.Pod, p api.Pod) bool {
	i := slices.IndexFunc(s.Loads, func(l api.Load) bool { return l.Id == p.Load })
	if i < 0 || !s.Loads[i].Apart || p.Node == 0 {
		return false
	}
	for _, q := range ahead {
		if q.Node == p.Node && q.Load == p.Load {
			return true
		}
	}
	return false
}

func skewByWords(s api.Snapshot, t api.State, load int) int {
	each := map[int]int{}
	for _, n := range s.Nodes {
		each[n.Zone] = 0
	}
	for _, p := range t.Pods {
		if n, ok := nodeByWords(s, p.Node); ok && p.Node != 0 && p.Load == load {
			each[n.Zone]++
		}
	}
	skew := 0
	for _, a := range each {
		for _, b := range each {
			skew = max(skew, a-b)
		}
	}
	return skew
}

// againstTheWords holds all calls against the words; it tells which of the five
// were due to be at fault, as a number of two's powers.
func againstTheWords(t *testing.T, s api.Snapshot, x api.Spec, at api.State) int {
	t.Helper()
	d := byWords(s, x, at)
	if layers := byTheLayers(s, x, at); !reflect.DeepEqual(layers, [5]error(d)) {
		t.Fatalf("%v, %v, %v: the layers tell %v, want %v", s, x, at, layers, d)
	}
	var why error
	var codes []api.Code
	set := 0
	for i, err := range d {
		if err == nil {
			continue
		}
		if set == 0 {
			why = err
		}
		set |= 1 << i
		codes = append(codes, codeByWords(err))
	}
	if err := Why(s, x, at); !reflect.DeepEqual(err, why) {
		t.Fatalf("Why(%v, %v, %v): %v, want %v", s, x, at, err, why)
	}
	if is := Is(s, x, at); is != (set == 0) {
		t.Fatalf("Is(%v, %v, %v): %v", s, x, at, is)
	}
	if all := All(s, x, at); !slices.Equal(all, codes) {
		t.Fatalf("All(%v, %v, %v): %v, want %v", s, x, at, all, codes)
	}
	ofOneMind(t, s, x, at)
	return set
}

func codeByWords(err error) api.Code {
	if spot, ok := err.(*api.Spot); ok {
		return spot.Err
	}
	return err.(api.Code)
}

// ofOneMind holds that All is none just if Is tells true, and just if Why tells
// nil; and that its first one is the Code of what Why tells.
func ofOneMind(t *testing.T, s api.Snapshot, x api.Spec, at api.State) { // P11.2
	t.Helper()
	why, is, all := Why(s, x, at), Is(s, x, at), All(s, x, at)
	if is != (why == nil) || is != (len(all) == 0) {
		t.Fatalf("%v, %v, %v: Is tells %v, Why %v, All %v", s, x, at, is, why, all)
	}
	if len(all) > 5 || len(all) > 0 && !errors.Is(why, all[0]) {
		t.Fatalf("%v, %v, %v: Why tells %v, All %v", s, x, at, why, all)
	}
}

// All states of up to four pods, each of one of three loads, at one of two
// nodes, or nowhere.
func TestAllSmallStates(t *testing.T) { // P11.1, P11.2
	s := api.Snapshot{
		Nodes: []api.Node{{Id: 1, Zone: 1, Cap: api.Vec{3, 2}, Held: api.Vec{1}}, {Id: 2, Zone: 3, Cap: api.Vec{3, 3}}},
		Loads: []api.Load{{Id: 1, Max: 2}, {Id: 2, Apart: true, Max: 9}, {Id: 3, Skew: 1, Min: 1, Max: 9}},
	}
	many := map[int]int{}
	all := 1
	for pods := range 5 {
		for number := range all {
			at := api.State{Preempts: number % 5, Shifts: number / 5 % 3}
			for i, rest := 0, number; i < pods; i, rest = i+1, rest/9 {
				at.Pods = append(at.Pods, api.Pod{Id: 11 + i, Load: 1 + rest%3, Req: api.Vec{1, uint64(rest % 2)}, Node: rest % 9 / 3})
			}
			many[againstTheWords(t, s, api.Spec{Preempts: 3, Shifts: 2}, at)]++
		}
		all *= 9
	}
	if len(many) < 20 || many[0] < 500 {
		t.Errorf("there were %d kinds of states, %d of them safe", len(many), many[0])
	}
}

// drawing is a fixed order of numbers that looks like none.
type drawing uint64

func (d *drawing) below(n int) int {
	*d = *d*6364136223846793005 + 1442695040888963407
	return int(*d>>33) % n
}

// amount draws one: most are small; some, of odd draws, are so great that two
// of them go over.
func (d *drawing) amount(odd bool, most int) api.Vec {
	v := api.Vec{uint64(d.below(most)), uint64(d.below(most))}
	if odd && d.below(6) == 0 {
		v[2+d.below(2)] = []uint64{1 << 63, math.MaxUint64, math.MaxUint64 / 2}[d.below(3)]
	}
	return v
}

// cluster draws nodes, loads, pods and a spec; of odd draws some amounts are as
// great as can be; of wild draws Ids are there twice, or 0, or below, and in no
// order, and other numbers are below 0.
func (d *drawing) cluster(odd, wild bool) (api.Snapshot, api.Spec, api.State) {
	var s api.Snapshot
	wide := 6 + d.below(40)
	for i := range 1 + d.below(4) {
		n := api.Node{Id: i + 1, Zone: 1 + d.below(3), Cap: d.amount(false, wide), Held: d.amount(false, 2)}
		n.Cap[0], n.Cap[1] = n.Cap[0]+4, n.Cap[1]+4
		if odd {
			n.Cap[2], n.Cap[3] = math.MaxUint64, math.MaxUint64
		}
		if wild {
			n.Id, n.Zone = d.below(6)-1, d.below(5)-1
		}
		s.Nodes = append(s.Nodes, n)
	}
	for i := range d.below(5) {
		l := api.Load{Id: i + 1, Apart: d.below(3) == 0, Skew: d.below(3), Min: d.below(6) / 5, Max: 1 + d.below(8)}
		if wild {
			l.Id, l.Skew, l.Min, l.Max = d.below(6)-1, d.below(5)-1, d.below(4)-1, d.below(6)-1
		}
		s.Loads = append(s.Loads, l)
	}
	t := api.State{Preempts: d.below(4), Shifts: d.below(4)}
	for i := range d.below(api.MaxPods + 1) {
		p := api.Pod{Id: i + 1, Load: 1 + d.below(3), Prio: d.below(3), Req: d.amount(odd, 4), Node: d.below(len(s.Nodes) + 1)}
		if wild {
			p.Id, p.Load, p.Node = d.below(8)-1, d.below(6)-1, d.below(7)-1
		}
		t.Pods = append(t.Pods, p)
	}
	return s, api.Spec{Preempts: 1 + d.below(4), Shifts: 1 + d.below(4)}, t
}

// Which of the five are at fault: each choice of them has to be there often
// enough for its test to mean anything.
func TestAgainstTheWords(t *testing.T) { // P11.1, P11.2
	var d drawing
	many := map[int]int{}
	over := 0
	for i := range 60_000 {
		s, x, at := d.cluster(i%2 == 0, i%4 < 2)
		many[againstTheWords(t, s, x, at)]++
		if errors.Is(Why(s, x, at), api.ErrOver) {
			over++
		}
	}
	for set := range 1 << 5 {
		if many[set] < 50 {
			t.Errorf("checks %05b were at fault %d times", set, many[set])
		}
	}
	if over < 500 {
		t.Errorf("a sum went over %d times", over)
	}
}

// Wants are nothing to it, nor are the snapshot's own pods.
func TestWhatIsNothingToIt(t *testing.T) { // P11.1
	var d drawing
	for i := range 6_000 {
		s, x, at := d.cluster(i%3 == 0, i%4 == 0)
		why, all := Why(s, x, at), All(s, x, at)
		s.Pods, x.Wants = at.Pods, nil
		for _, p := range at.Pods {
			x.Wants = append(x.Wants, api.Want{Pod: p.Id, Stay: d.below(2) == 0, Req: d.amount(true, 9)})
		}
		_, _, other := d.cluster(true, true)
		for range 2 {
			if !reflect.DeepEqual(Why(s, x, at), why) || !slices.Equal(All(s, x, at), all) {
				t.Fatalf("%v, %v, %v: %v, and then %v", s, x, at, why, Why(s, x, at))
			}
			s.Pods = other.Pods
		}
	}
}

// Whatever move is made of a state that is safe, the state behind it is told
// of as any other one; an Evict alone never takes room, nor uses a budget.
func TestBehindMoves(t *testing.T) { // P11.1, P11.2
	var d drawing
	made := map[[2]int]int{} // by kind, and by whether it is safe
	for range 30_000 {
		s, x, from := d.cluster(false, false)
		if !Is(s, x, from) {
			continue
		}
		for _, p := range from.Pods {
			m := d.move(s, from, p.Id)
			behind, err := state.Make(s, x, from, m)
			if err != nil {
				continue
			}
			set := againstTheWords(t, s, x, behind)
			made[[2]int{m.Kind, min(set, 1)}]++
			if m.Kind == api.Evict && set&0b10011 != 0 {
				t.Fatalf("%v, %v: %v makes checks %05b tell a fault", s, from, m, set)
			}
		}
	}
	for kind := api.Place; kind <= api.Preempt; kind++ {
		for fault := range 2 {
			if made[[2]int{kind, fault}] < 100 {
				t.Errorf("moves of kind %d were made %d times, at fault: %d", kind, made[[2]int{kind, fault}], fault)
			}
		}
	}
}

// move draws one of a pod that is likely to be made.
func (d *drawing) move(s api.Snapshot, t api.State, pod int) api.Move {
	node := 1 + d.below(len(s.Nodes))
	if p, _ := state.Pod(t, pod); p.Node != 0 {
		return []api.Move{{Kind: api.Evict, Pod: pod}, {Kind: api.Shift, Pod: pod, Node: node}}[d.below(2)]
	}
	over := t.Pods[d.below(len(t.Pods))]
	return []api.Move{{Kind: api.Place, Pod: pod, Node: node}, {Kind: api.Preempt, Pod: pod, Node: over.Node, Over: over.Id}}[d.below(2)]
}
