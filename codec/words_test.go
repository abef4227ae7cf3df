package codec

import (
	"bytes"
	"reflect"
	"slices"
	"strings"
	"testing"

	"dunnage/api"
	"dunnage/cluster"
	"dunnage/wire"
)

// The chapter's words, once more: which number stands where is told by tables
// of letters, and what is read is taken from its place.

// form is how numbers stand: the first ones, then those of each of the lists;
// i: an Id, or another one up to MaxId, t: a truth, v: one of a Vec's.
type form struct {
	first string
	lists []string
	most  []uint64
}

func snapshotForm() form {
	return form{"iii", []string{"iivvvvvvvv", "itiii", "iiivvvvi"}, []uint64{8, 8, 12}}
}

func specForm() form { return form{"iii", []string{"ivvvvt"}, []uint64{12}} }

func movesForm() form { return form{"i", []string{"iiii"}, []uint64{40}} }

// parts are the first numbers, and the lists' ones, each cut into rows.
func (f form) parts(b []byte) ([]uint64, [][][]uint64, error) {
	l, err := wire.All(b)
	if err != nil {
		return nil, nil, err
	}
	if len(l) < len(f.first) {
		return nil, nil, api.ErrForm
	}
	kinds := f.first
	for i, most := range f.most {
		if l[i] > most {
			return nil, nil, api.ErrLarge
		}
		kinds += strings.Repeat(f.lists[i], int(l[i]))
	}
	if len(kinds) != len(l) {
		return nil, nil, api.ErrForm
	}
	for i, kind := range kinds {
		if kind == 'i' && l[i] > 2147483647 || kind == 't' && l[i] != 0 && l[i] != 1 {
			return nil, nil, api.ErrForm
		}
	}
	first, rest := l[:len(f.first)], l[len(f.first):]
	rows := make([][][]uint64, len(f.lists))
	for i, one := range f.lists {
		for range first[i] {
			rows[i] = append(rows[i], rest[:len(one)])
			rest = rest[len(one):]
		}
	}
	return first, rows, nil
}

func snapshotByWords(b []byte) (api.Snapshot, error) {
	_, rows, err := snapshotForm().parts(b)
	if err != nil {
		return api.Snapshot{}, err
	}
	var s api.Snapshot
	for _, r := range rows[0] {
		s.Nodes = append(s.Nodes, api.Node{Id: int(r[0]), Zone: int(r[1]), Cap: api.Vec(r[2:6]), Held: api.Vec(r[6:10])})
	}
	for _, r := range rows[1] {
		s.Loads = append(s.Loads, api.Load{Id: int(r[0]), Apart: r[1] == 1, Skew: int(r[2]), Min: int(r[3]), Max: int(r[4])})
	}
	for _, r := range rows[2] {
		s.Pods = append(s.Pods, api.Pod{Id: int(r[0]), Load: int(r[1]), Prio: int(r[2]), Req: api.Vec(r[3:7]), Node: int(r[7])})
	}
	if err := cluster.Check(s); err != nil {
		return api.Snapshot{}, err
	}
	return s, nil
}

func specByWords(b []byte) (api.Spec, error) {
	first, rows, err := specForm().parts(b)
	if err != nil {
		return api.Spec{}, err
	}
	x := api.Spec{Preempts: int(first[1]), Shifts: int(first[2])}
	for _, r := range rows[0] {
		x.Wants = append(x.Wants, api.Want{Pod: int(r[0]), Req: api.Vec(r[1:5]), Stay: r[5] == 1})
	}
	return x, nil
}

func movesByWords(b []byte) ([]api.Move, error) {
	_, rows, err := movesForm().parts(b)
	if err != nil {
		return nil, err
	}
	var l []api.Move
	for _, r := range rows[0] {
		l = append(l, api.Move{Kind: int(r[0]), Pod: int(r[1]), Node: int(r[2]), Over: int(r[3])})
	}
	return l, nil
}

func asNumber(t bool) uint64 {
	if t {
		return 1
	}
	return 0
}

// snapshotNumbers are a snapshot's numbers, whether it may be or not.
func snapshotNumbers(s api.Snapshot) []uint64 {
	l := []uint64{uint64(len(s.Nodes)), uint64(len(s.Loads)), uint64(len(s.Pods))}
	for _, n := range s.Nodes {
		l = append(l, uint64(n.Id), uint64(n.Zone), n.Cap[0], n.Cap[1], n.Cap[2], n.Cap[3], n.Held[0], n.Held[1], n.Held[2], n.Held[3])
	}
	for _, d := range s.Loads {
		l = append(l, uint64(d.Id), asNumber(d.Apart), uint64(d.Skew), uint64(d.Min), uint64(d.Max))
	}
	for _, p := range s.Pods {
		l = append(l, uint64(p.Id), uint64(p.Load), uint64(p.Prio), p.Req[0], p.Req[1], p.Req[2], p.Req[3], uint64(p.Node))
	}
	return l
}

func specNumbers(x api.Spec) []uint64 {
	l := []uint64{uint64(len(x.Wants)), uint64(x.Preempts), uint64(x.Shifts)}
	for _, w := range x.Wants {
		l = append(l, uint64(w.Pod), w.Req[0], w.Req[1], w.Req[2], w.Req[3], asNumber(w.Stay))
	}
	return l
}

func movesNumbers(l []api.Move) []uint64 {
	numbers := []uint64{uint64(len(l))}
	for _, m := range l {
		numbers = append(numbers, uint64(m.Kind), uint64(m.Pod), uint64(m.Node), uint64(m.Over))
	}
	return numbers
}

// told counts what the words told of bytes; 0: nothing was at fault.
type told map[api.Code]int

func (c told) count(err error) {
	switch e := err.(type) {
	case nil:
		c[0]++
	case api.Code:
		c[e]++
	case *api.Spot:
		c[e.Err]++
	}
}

// heldAgainstWords holds the three that read against the words, twice (R4),
// and of what is read the bytes that it is written as.
func heldAgainstWords(t *testing.T, c told, b []byte) {
	t.Helper()
	s, sErr := snapshotByWords(b)
	x, xErr := specByWords(b)
	l, lErr := movesByWords(b)
	for range 2 {
		readsSnapshot(t, "bytes", b, s, sErr)
		readsSpec(t, "bytes", b, x, xErr)
		readsMoves(t, "bytes", b, l, lErr)
	}
	if sErr == nil {
		writesSnapshot(t, "what was read", s, b, nil)
	}
	if xErr == nil {
		writesSpec(t, "what was read", x, b, nil)
	}
	if lErr == nil {
		writesMoves(t, "what was read", l, b, nil)
	}
	c.count(sErr)
	c.count(xErr)
	c.count(lErr)
	if t.Failed() {
		t.Fatalf("bytes % x", b)
	}
}

// begins are numbers that something is the bytes of.
func begins() [][]uint64 {
	var l [][]uint64
	for _, c := range snapshotSamples() {
		l = append(l, c.numbers)
	}
	for _, c := range specSamples() {
		l = append(l, c.numbers)
	}
	for _, c := range movesSamples() {
		l = append(l, c.numbers)
	}
	return l
}

func TestTwoNumbersTurned(t *testing.T) { // P4.2, P4.4, R1
	others := []uint64{0, 1, 2, 9, 41, api.MaxId, beyond}
	c := told{}
	for _, numbers := range begins() {
		for i := range numbers {
			for k := range i {
				for _, one := range others {
					for _, other := range others {
						l := slices.Clone(numbers)
						l[i], l[k] = one, other
						heldAgainstWords(t, c, asBytes(l...))
					}
				}
			}
		}
	}
	for _, code := range []api.Code{0, api.ErrForm, api.ErrLarge, api.ErrArg, api.ErrNone, api.ErrTwice} {
		if c[code] < 100 {
			t.Errorf("%v was told %d times", code, c[code])
		}
	}
}

func TestNumbersTakenAwayAndAdded(t *testing.T) { // P4.2, P4.4, R1
	others := []uint64{0, 1, 8, 9, 12, 13, 40, 41, beyond, top}
	c := told{}
	for _, numbers := range begins() {
		for i := range len(numbers) + 1 {
			heldAgainstWords(t, c, asBytes(numbers[:i]...))
			heldAgainstWords(t, c, asBytes(numbers[i:]...))
			for _, n := range others {
				heldAgainstWords(t, c, asBytes(slices.Insert(slices.Clone(numbers), i, n)...))
				heldAgainstWords(t, c, asBytes(append(slices.Clone(numbers[:i]), n)...))
			}
		}
	}
}

func TestBytesTurned(t *testing.T) { // P4.2, P4.4, R1
	c := told{}
	for _, numbers := range begins() {
		b := asBytes(numbers...)
		for i := range b {
			heldAgainstWords(t, c, b[:i])
			heldAgainstWords(t, c, b[i:])
			for n := range 256 {
				other := bytes.Clone(b)
				other[i] = byte(n)
				heldAgainstWords(t, c, other)
			}
		}
	}
}

func TestAllShortNumbers(t *testing.T) { // P4.2, P4.4
	c := told{}
	some := []uint64{0, 1, 2, 8, 9, 12, 13, 40, 41, api.MaxId, beyond, top}
	heldAgainstWords(t, c, nil)
	for _, x := range some {
		heldAgainstWords(t, c, asBytes(x))
		for _, y := range some {
			heldAgainstWords(t, c, asBytes(x, y))
			for _, z := range some {
				heldAgainstWords(t, c, asBytes(x, y, z))
				heldAgainstWords(t, c, asBytes(x, y, z, x))
				heldAgainstWords(t, c, asBytes(x, y, z, x, y))
			}
		}
	}
}

func TestWhatWasWrittenIsReadAsItWas(t *testing.T) { // P4.4
	full := fullSnapshot()
	for nodes := 1; nodes <= api.MaxNodes; nodes++ {
		for loads := range api.MaxLoads + 1 {
			for pods := range api.MaxPods + 1 {
				s := snapshotOf(full, nodes, loads, pods)
				b, err := Snapshot(s)
				if err != nil || !bytes.Equal(b, asBytes(snapshotNumbers(s)...)) {
					t.Fatalf("%d nodes, %d loads, %d pods: % x, %v", nodes, loads, pods, b, err)
				}
				readsSnapshot(t, "what was written", b, s, nil)
			}
		}
	}
	for _, c := range specSamples() {
		b, _ := Spec(c.what)
		readsSpec(t, "what was written", b, c.what, nil)
	}
	for _, c := range movesSamples() {
		b, _ := Moves(c.what)
		readsMoves(t, "what was written", b, c.what, nil)
	}
}

// snapshotOf is one of so many of the full one's nodes, loads, and pods, so
// far as there are nodes and loads for these.
func snapshotOf(full api.Snapshot, nodes, loads, pods int) api.Snapshot {
	var s api.Snapshot
	s.Nodes = append(s.Nodes, full.Nodes[:nodes]...)
	s.Loads = append(s.Loads, full.Loads[:loads]...)
	for _, p := range full.Pods[:pods] {
		if _, ok := cluster.Load(s, p.Load); !ok {
			continue
		}
		if _, ok := cluster.Node(s, p.Node); !ok {
			p.Node = 0
		}
		s.Pods = append(s.Pods, p)
	}
	return s
}

func TestTheSameCallIsToldTheSame(t *testing.T) { // R4
	for _, c := range atFault() {
		s := mixedSnapshot()
		c.turn(&s)
		_, one := Snapshot(s)
		_, other := Snapshot(s)
		if !reflect.DeepEqual(one, other) {
			t.Errorf("%s: %v, then %v", c.name, one, other)
		}
	}
	for _, n := range numbersBeyond() {
		for range 2 {
			writesSpec(t, "a budget", api.Spec{Shifts: n}, nil, api.ErrArg)
			writesMoves(t, "a kind", []api.Move{{Kind: n}}, nil, api.ErrArg)
		}
	}
}
