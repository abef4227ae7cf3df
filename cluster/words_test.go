package cluster

import (
	"reflect"
	"testing"

	"dunnage/api"
)

// The chapter's words, once more: all faults of all are gathered, each with
// its place and its rank among those of one, and the least is the one told.

type fault struct {
	place, rank int
	code        api.Code
}

type faults []fault

func (l *faults) add(is bool, place, rank int, code api.Code) {
	if is {
		*l = append(*l, fault{place, rank, code})
	}
}

func (l faults) told() error {
	if len(l) == 0 {
		return nil
	}
	first := l[0]
	for _, f := range l {
		if f.place < first.place || f.place == first.place && f.rank < first.rank {
			first = f
		}
	}
	return at(first.place, first.code)
}

// addIds gathers what is wrong with a list's Ids.
func (l *faults) addIds(from int, ids []int) {
	for i, id := range ids {
		l.add(i > 0 && id == ids[max(i, 1)-1], from+i, 0, api.ErrTwice)
		l.add(i > 0 && id < ids[max(i, 1)-1], from+i, 1, api.ErrArg)
		l.add(id < 1 || id > 2147483647, from+i, 1, api.ErrArg)
	}
}

func beyond(numbers ...int) bool {
	for _, n := range numbers {
		if n < 0 || n > 100 {
			return true
		}
	}
	return false
}

func checkByWords(s api.Snapshot) error {
	if len(s.Nodes) == 0 || len(s.Nodes) > 8 || len(s.Loads) > 8 || len(s.Pods) > 12 {
		return api.ErrLarge
	}
	var l faults
	var nodes, loads, pods []int
	isNode, isLoad := map[int]int{0: 1}, map[int]int{}
	for i, n := range s.Nodes {
		nodes = append(nodes, n.Id)
		isNode[n.Id]++
		l.add(n.Zone < 1 || n.Zone > 8, i, 1, api.ErrArg)
		for k := range 4 {
			l.add(n.Held[k] > n.Cap[k], i, 1, api.ErrArg)
		}
	}
	for i, d := range s.Loads {
		loads = append(loads, d.Id)
		isLoad[d.Id]++
		l.add(beyond(d.Skew, d.Min, d.Max) || d.Min > d.Max, len(nodes)+i, 1, api.ErrArg)
	}
	for i, p := range s.Pods {
		pods = append(pods, p.Id)
		place := len(nodes) + len(loads) + i
		l.add(beyond(p.Prio), place, 1, api.ErrArg)
		l.add(isLoad[p.Load] == 0, place, 2, api.ErrNone)
		l.add(isNode[p.Node] == 0, place, 2, api.ErrNone)
	}
	l.addIds(0, nodes)
	l.addIds(len(nodes), loads)
	l.addIds(len(nodes)+len(loads), pods)
	return l.told()
}

func fairByWords(s api.Snapshot, x api.Spec) error {
	if err := checkByWords(s); err != nil {
		return err
	}
	if x.Preempts < 0 || x.Preempts > 40 || x.Shifts < 0 || x.Shifts > 40 {
		return api.ErrLarge
	}
	isPod := map[int]int{}
	for _, p := range s.Pods {
		isPod[p.Id]++
	}
	var l faults
	for i, w := range x.Wants {
		l.add(i > 0 && w.Pod == x.Wants[max(i, 1)-1].Pod, i, 0, api.ErrTwice)
		l.add(i > 0 && w.Pod < x.Wants[max(i, 1)-1].Pod, i, 1, api.ErrArg)
		l.add(isPod[w.Pod] == 0, i, 2, api.ErrNone)
		for k := range 4 {
			l.add(!w.Stay && w.Req[k] > 0, i, 3, api.ErrArg)
		}
	}
	return l.told()
}

// drawing is a fixed order of numbers that looks like none.
type drawing uint64

func (d *drawing) below(n int) int {
	*d = *d*6364136223846793005 + 1442695040888963407
	return int(*d>>33) % n
}

// oneOf draws one of these.
func (d *drawing) oneOf(numbers ...int) int { return numbers[d.below(len(numbers))] }

// now tells true about once in so many times.
func (d *drawing) now(times int) bool { return d.below(times) == 0 }

// id draws a new Id, seldom one that may not be.
func (d *drawing) id(ahead, calm int) int {
	if d.now(calm) {
		return d.oneOf(ahead, ahead-1, 0, -1, 1, api.MaxId, api.MaxId+1)
	}
	return ahead + 1 + d.below(2)
}

// count draws one, seldom one that may not be.
func (d *drawing) count(calm int) int {
	if d.now(calm) {
		return d.oneOf(-1, 101, 100, 0)
	}
	return d.below(101)
}

// snapshot draws one; the greater calm is, the fewer faults it has.
func (d *drawing) snapshot(calm int) api.Snapshot {
	var s api.Snapshot
	id := 0
	for range 1 + d.below(4) {
		id = d.id(id, calm)
		n := api.Node{Id: id, Zone: 1 + d.below(8)}
		if d.now(calm) {
			n.Zone = d.oneOf(0, 9, -1)
		}
		for k := range 4 {
			n.Cap[k] = uint64(d.below(10))
			n.Held[k] = uint64(d.below(int(n.Cap[k]) + 1))
			if d.now(4 * calm) {
				n.Held[k] = n.Cap[k] + 1
			}
		}
		s.Nodes = append(s.Nodes, n)
	}
	id = 0
	for range d.below(4) {
		id = d.id(id, calm)
		l := api.Load{Id: id, Apart: d.now(2), Skew: d.count(calm), Min: d.count(calm), Max: d.count(calm)}
		if l.Min > l.Max && !d.now(calm) {
			l.Min, l.Max = l.Max, l.Min
		}
		s.Loads = append(s.Loads, l)
	}
	id = 0
	for range d.below(6) {
		if len(s.Loads) == 0 && !d.now(calm) {
			break
		}
		id = d.id(id, calm)
		p := api.Pod{Id: id, Prio: d.count(calm), Load: d.oneOf(0, 2, -1, 9)}
		if len(s.Loads) > 0 && !d.now(calm) {
			p.Load = s.Loads[d.below(len(s.Loads))].Id
		}
		if d.now(2) {
			p.Node = s.Nodes[d.below(len(s.Nodes))].Id
		}
		if d.now(calm) {
			p.Node = d.oneOf(0, 2, -1, 9)
		}
		s.Pods = append(s.Pods, p)
	}
	return s
}

// spec draws one for a snapshot.
func (d *drawing) spec(s api.Snapshot, calm int) api.Spec {
	x := api.Spec{Preempts: d.below(41), Shifts: d.below(41)}
	if d.now(2 * calm) {
		x.Preempts = d.oneOf(-1, 41)
	}
	if d.now(2 * calm) {
		x.Shifts = d.oneOf(-1, 41)
	}
	for _, p := range s.Pods {
		if d.now(3) {
			continue
		}
		w := api.Want{Pod: p.Id, Stay: d.now(2)}
		if d.now(calm) {
			w.Pod = d.oneOf(0, -1, p.Id-1, p.Id+1, s.Pods[0].Id)
		}
		if w.Stay || d.now(calm) {
			w.Req[d.below(4)] = uint64(d.below(3))
		}
		x.Wants = append(x.Wants, w)
	}
	return x
}

func TestAgainstTheWords(t *testing.T) { // P3.1, P3.2, P3.4, R1
	var d drawing
	checked, fair := map[api.Code]int{}, map[api.Code]int{}
	for i := range 200_000 {
		calms := []int{3, 20, 200}
		s := d.snapshot(calms[i%3])
		x := d.spec(s, calms[i/3%3])
		wantCheck, wantFair := checkByWords(s), fairByWords(s, x)
		if err := Check(s); !reflect.DeepEqual(err, wantCheck) {
			t.Fatalf("Check(%v): %v, want %v", s, err, wantCheck)
		}
		if err := Fair(s, x); !reflect.DeepEqual(err, wantFair) {
			t.Fatalf("Fair(%v, %v): %v, want %v", s, x, err, wantFair)
		}
		checked[codeOf(wantCheck)]++
		if wantCheck != nil {
			continue
		}
		fair[codeOf(wantFair)]++
		for len(s.Pods) > 0 {
			s.Pods = s.Pods[:len(s.Pods)-1]
			if err := Check(s); err != nil {
				t.Fatalf("Check(%v): %v", s, err)
			}
		}
	}
	for _, code := range []api.Code{0, api.ErrArg, api.ErrNone, api.ErrTwice} {
		if checked[code] < 500 || fair[code] < 500 {
			t.Errorf("%v was drawn %d and %d times", code, checked[code], fair[code])
		}
	}
	if fair[api.ErrLarge] < 500 {
		t.Errorf("budgets beyond were drawn %d times", fair[api.ErrLarge])
	}
}

// codeOf is an error's number; 0: there is none.
func codeOf(err error) api.Code {
	switch e := err.(type) {
	case *api.Spot:
		return e.Err
	case api.Code:
		return e
	}
	return 0
}
