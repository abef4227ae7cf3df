package room

import (
	"math/big"
	"reflect"
	"slices"
	"testing"

	"dunnage/api"
)

// The chapter's words, once more, in numbers without bounds: a use and a rest
// are told as they are, and what is too great, or below 0, is looked for then.

type amounts [4]*big.Int

func (a amounts) beyond() bool {
	for _, n := range a {
		if !n.IsUint64() {
			return true
		}
	}
	return false
}

func (a amounts) vec() api.Vec {
	var v api.Vec
	for k, n := range a {
		v[k] = n.Uint64()
	}
	return v
}

func useByWords(t api.State, node int) amounts {
	var sum amounts
	for k := range sum {
		sum[k] = new(big.Int)
		for _, p := range t.Pods {
			if p.Node == node {
				sum[k].Add(sum[k], new(big.Int).SetUint64(p.Req[k]))
			}
		}
	}
	return sum
}

// restByWords is a rest, and the reasons why there is none, the first one to
// be told ahead.
func restByWords(s api.Snapshot, t api.State, node int) (amounts, []api.Code) {
	i := slices.IndexFunc(s.Nodes, func(n api.Node) bool { return n.Id == node })
	if i < 0 {
		return amounts{}, []api.Code{api.ErrNone}
	}
	var reasons []api.Code
	use := useByWords(t, node)
	if use.beyond() {
		reasons = append(reasons, api.ErrOver)
	}
	var free, rest amounts
	for k := range rest {
		capacity, held := new(big.Int).SetUint64(s.Nodes[i].Cap[k]), new(big.Int).SetUint64(s.Nodes[i].Held[k])
		free[k] = new(big.Int).Sub(capacity, held)
		rest[k] = new(big.Int).Sub(free[k], use[k])
	}
	if free.beyond() || rest.beyond() {
		reasons = append(reasons, api.ErrRoom)
	}
	return rest, reasons
}

func checkByWords(s api.Snapshot, t api.State) error {
	for i, n := range s.Nodes {
		if _, reasons := restByWords(s, t, n.Id); len(reasons) > 0 {
			return &api.Spot{At: i, Err: reasons[0]}
		}
	}
	return nil
}

// drawing is a fixed order of numbers that looks like none.
type drawing uint64

func (d *drawing) below(n int) int {
	*d = *d*6364136223846793005 + 1442695040888963407
	return int(*d>>33) % n
}

// amount draws one of numbers below these, seldom one of the greatest there
// are, or half of these.
func (d *drawing) amount(below, calm int) api.Vec {
	var v api.Vec
	for k := range v {
		v[k] = uint64(d.below(below))
		if d.below(calm) == 0 {
			v[k] = []uint64{top, top - 1, top - 2, 1 << 63, 1<<63 - 1}[d.below(5)]
		}
	}
	return v
}

// cluster draws nodes and pods; of some draws Ids are there twice, or 0, or
// below.
func (d *drawing) cluster(wild bool) (api.Snapshot, api.State) {
	var s api.Snapshot
	var t api.State
	calm := []int{4, 30, 400}[d.below(3)]
	for i := range d.below(5) {
		n := api.Node{Id: 2*i + 1, Zone: 1, Cap: d.amount(12, 2*calm), Held: d.amount(4, 4*calm)}
		if wild {
			n.Id = d.below(6) - 1
		}
		if d.below(4) > 0 {
			for k := range n.Cap {
				n.Cap[k] = max(n.Cap[k], n.Held[k])
			}
		}
		s.Nodes = append(s.Nodes, n)
	}
	for i := range d.below(9) {
		p := api.Pod{Id: i + 1, Req: d.amount(3, calm)}
		if d.below(4) > 0 {
			p.Node = []int{1, 3, 5, 7, d.below(10) - 1}[d.below(5)]
		}
		t.Pods = append(t.Pods, p)
	}
	return s, t
}

func TestAgainstTheWords(t *testing.T) { // P6.1, P6.2, R1, R3
	var d drawing
	checks, rests := map[[2]int]int{}, map[api.Code]int{}
	for i := range 60_000 {
		s, state := d.cluster(i%4 == 0)
		for node := -2; node < 10; node++ {
			rests[usedAndLeft(t, s, state, node)]++
		}
		err, want := Check(s, state), checkByWords(s, state)
		if !reflect.DeepEqual(err, want) {
			t.Fatalf("Check(%v, %v): %v, want %v", s, state, err, want)
		}
		if spot, ok := want.(*api.Spot); ok {
			checks[[2]int{spot.At, int(spot.Err)}]++
		} else if len(s.Nodes) > 0 {
			checks[[2]int{}]++
		}
	}
	for _, code := range []api.Code{0, api.ErrNone, api.ErrOver, api.ErrRoom} {
		if rests[code] < 2000 {
			t.Errorf("rests were told %v %d times", code, rests[code])
		}
	}
	for _, due := range [][2]int{{}, {0, int(api.ErrOver)}, {0, int(api.ErrRoom)}, {2, int(api.ErrOver)}, {2, int(api.ErrRoom)}} {
		if checks[due] < 100 {
			t.Errorf("node %d was told %v %d times", due[0], api.Code(due[1]), checks[due])
		}
	}
}

// usedAndLeft holds Use and Rest of a node against the words, and what follows
// of them; it tells the reason that was due, 0 of none.
func usedAndLeft(t *testing.T, s api.Snapshot, state api.State, node int) api.Code {
	t.Helper()
	use, useErr := Use(state, node)
	if exact := useByWords(state, node); exact.beyond() {
		told(t, "Use", use, useErr, api.Vec{}, api.ErrOver)
	} else {
		told(t, "Use", use, useErr, exact.vec(), nil)
	}
	rest, err := Rest(s, state, node)
	exact, reasons := restByWords(s, state, node)
	if len(reasons) > 0 {
		told(t, "Rest", rest, err, api.Vec{}, reasons[0])
		return reasons[0]
	}
	told(t, "Rest", rest, err, exact.vec(), nil)
	together(t, s, node, use, rest)
	withAPodLess(t, s, state, node)
	if t.Failed() {
		t.Fatalf("node %d of %v, %v", node, s, state)
	}
	return 0
}

// together holds use and rest, as they are told, against Cap less Held.
func together(t *testing.T, s api.Snapshot, node int, use, rest api.Vec) { // P6.2
	t.Helper()
	i := slices.IndexFunc(s.Nodes, func(n api.Node) bool { return n.Id == node })
	for k := range use {
		if n := s.Nodes[i]; use[k]+rest[k] != n.Cap[k]-n.Held[k] {
			t.Errorf("use %v and rest %v of %v", use, rest, n)
		}
	}
}

// withAPodLess holds that a node that had room has it without any one pod too,
// and no less.
func withAPodLess(t *testing.T, s api.Snapshot, state api.State, node int) { // P6.2
	t.Helper()
	had, _ := Rest(s, state, node)
	for i, p := range state.Pods {
		less := api.State{Pods: slices.Delete(slices.Clone(state.Pods), i, i+1)}
		has, err := Rest(s, less, node)
		if err != nil {
			t.Errorf("without %v: %v", p, err)
		}
		for k := range has {
			due := had[k]
			if p.Node == node {
				due += p.Req[k]
			}
			if has[k] != due {
				t.Errorf("without %v: rest %v, and had %v", p, has, had)
			}
		}
	}
}
