package codec

import (
	"bytes"
	"encoding/binary"
	"errors"
	"math"
	"reflect"
	"slices"
	"testing"

	"dunnage/api"
	"dunnage/cluster"
)

const (
	top    = 1<<64 - 1
	beyond = api.MaxId + 1
)

// asBytes are numbers' bytes, made by the library's own means.
func asBytes(l ...uint64) []byte {
	b := []byte{}
	for _, n := range l {
		b = binary.AppendUvarint(b, n)
	}
	return b
}

func at(place int, fault api.Code) error { return &api.Spot{At: place, Err: fault} }

// snapshotSample is a snapshot, and its numbers as the chapter tells them.
type snapshotSample struct {
	name    string
	what    api.Snapshot
	numbers []uint64
}

func snapshotSamples() []snapshotSample {
	return []snapshotSample{
		{"mixed", mixedSnapshot(), mixedSnapshotNumbers()},
		{"least", api.Snapshot{Nodes: []api.Node{{Id: 1, Zone: 1}}}, []uint64{1, 0, 0, 1, 1, 0, 0, 0, 0, 0, 0, 0, 0}},
		{
			"no pods",
			api.Snapshot{
				Nodes: []api.Node{{Id: api.MaxId, Zone: 8, Cap: api.Vec{top, top, top, top}, Held: api.Vec{top, top, top, top}}},
				Loads: []api.Load{{Id: 1}, {Id: api.MaxId, Apart: true, Skew: 100, Min: 100, Max: 100}},
			},
			[]uint64{
				1, 2, 0,
				api.MaxId, 8, top, top, top, top, top, top, top, top,
				1, 0, 0, 0, 0,
				api.MaxId, 1, 100, 100, 100,
			},
		},
	}
}

// mixedSnapshot has numbers that stand unlike those beside them.
func mixedSnapshot() api.Snapshot {
	return api.Snapshot{
		Nodes: []api.Node{
			{Id: 11, Zone: 3, Cap: api.Vec{1000, 2000, 3000, 4000}, Held: api.Vec{900, 800, 700, 600}},
			{Id: 12, Zone: 5, Cap: api.Vec{top, 1 << 63, 128, 127}, Held: api.Vec{top - 1, 1, 0, 126}},
		},
		Loads: []api.Load{
			{Id: 22, Apart: true, Skew: 4, Min: 2, Max: 90},
		},
		Pods: []api.Pod{
			{Id: 31, Load: 22, Prio: 7, Req: api.Vec{13, 14, 15, 16}, Node: 12},
			{Id: 300, Load: 22, Prio: 100, Req: api.Vec{top, 1 << 32, api.MaxId, beyond}},
			{Id: api.MaxId, Load: 22, Req: api.Vec{0, 0, 0, 1}, Node: 11},
		},
	}
}

func mixedSnapshotNumbers() []uint64 {
	return []uint64{
		2, 1, 3,
		11, 3, 1000, 2000, 3000, 4000, 900, 800, 700, 600,
		12, 5, top, 1 << 63, 128, 127, top - 1, 1, 0, 126,
		22, 1, 4, 2, 90,
		31, 22, 7, 13, 14, 15, 16, 12,
		300, 22, 100, top, 1 << 32, api.MaxId, beyond, 0,
		api.MaxId, 22, 0, 0, 0, 0, 1, 11,
	}
}

// fullSnapshot has as many of each as there may be.
func fullSnapshot() api.Snapshot {
	var s api.Snapshot
	for i := range api.MaxNodes {
		s.Nodes = append(s.Nodes, api.Node{Id: 100 + i, Zone: 8 - i, Cap: api.Vec{top, 9, top, 9}, Held: api.Vec{top, 8, 0, 9}})
	}
	for i := range api.MaxLoads {
		s.Loads = append(s.Loads, api.Load{Id: 200 + i, Apart: i%3 == 0, Skew: i, Min: 10 + i, Max: 20 + i})
	}
	for i := range api.MaxPods {
		s.Pods = append(s.Pods, api.Pod{Id: 300 + i, Load: 200 + i%8, Prio: i, Req: api.Vec{uint64(i), top}, Node: 100 + i%8})
	}
	return s
}

type specSample struct {
	name    string
	what    api.Spec
	numbers []uint64
}

func specSamples() []specSample {
	return []specSample{
		{"none", api.Spec{}, []uint64{0, 0, 0}},
		{"budgets alone", api.Spec{Preempts: 3, Shifts: 40}, []uint64{0, 3, 40}},
		{"the greatest budgets", api.Spec{Preempts: api.MaxId, Shifts: api.MaxId}, []uint64{0, api.MaxId, api.MaxId}},
		{
			"mixed",
			api.Spec{
				Preempts: 5, Shifts: 300,
				Wants: []api.Want{
					{Pod: 31, Req: api.Vec{13, 14, 15, 16}, Stay: true},
					{Pod: 32},
					{Pod: api.MaxId, Req: api.Vec{top, 1 << 63, api.MaxId, beyond}, Stay: true},
				},
			},
			[]uint64{
				3, 5, 300,
				31, 13, 14, 15, 16, 1,
				32, 0, 0, 0, 0, 0,
				api.MaxId, top, 1 << 63, api.MaxId, beyond, 1,
			},
		},
		{
			// None of these wants may be, but that isn't asked of a spec here.
			"wants that may not be",
			api.Spec{Wants: []api.Want{{Pod: 7, Req: api.Vec{1}}, {Pod: 7, Stay: true}, {Pod: 0}}},
			[]uint64{3, 0, 0, 7, 1, 0, 0, 0, 0, 7, 0, 0, 0, 0, 1, 0, 0, 0, 0, 0, 0},
		},
	}
}

type movesSample struct {
	name    string
	what    []api.Move
	numbers []uint64
}

func movesSamples() []movesSample {
	return []movesSample{
		{"none", nil, []uint64{0}},
		{"one", []api.Move{{Kind: api.Preempt, Pod: 300, Node: 2, Over: 1}}, []uint64{1, 4, 300, 2, 1}},
		{
			"mixed",
			[]api.Move{
				{Kind: api.Place, Pod: 31, Node: 12},
				{Kind: api.Evict, Pod: 32},
				{Kind: api.MaxId, Pod: api.MaxId, Node: api.MaxId, Over: api.MaxId},
				{},
			},
			[]uint64{
				4,
				1, 31, 12, 0,
				2, 32, 0, 0,
				api.MaxId, api.MaxId, api.MaxId, api.MaxId,
				0, 0, 0, 0,
			},
		},
	}
}

// wants are so many of them.
func wants(many int) []api.Want {
	var l []api.Want
	for i := range many {
		l = append(l, api.Want{Pod: i + 1, Req: api.Vec{uint64(i)}, Stay: i%2 == 0})
	}
	return l
}

// movesOf are so many of them.
func movesOf(many int) []api.Move {
	var l []api.Move
	for i := range many {
		l = append(l, api.Move{Kind: 1 + i%4, Pod: i, Node: 2 * i, Over: 3 * i})
	}
	return l
}

// isWritten holds what was written, or the error told instead (R3), against
// what is due.
func isWritten(t *testing.T, name string, b []byte, err error, want []byte, wantErr error) {
	t.Helper()
	sameError(t, name, err, wantErr)
	if wantErr != nil && b != nil {
		t.Errorf("%s: % x beside an error", name, b)
	}
	if wantErr == nil && !bytes.Equal(b, want) {
		t.Errorf("%s: % x, want % x", name, b, want)
	}
}

// sameError holds an error against the one that is due: none, a Code itself,
// or a Spot.
func sameError(t *testing.T, name string, got, want error) {
	t.Helper()
	if !reflect.DeepEqual(got, want) {
		t.Errorf("%s: error %v (%T), want %v (%T)", name, got, got, want, want)
	}
	var place *api.Spot
	if errors.As(want, &place) && !errors.Is(got, place.Err) {
		t.Errorf("%s: %v isn't %v", name, got, place.Err)
	}
}

func writesSnapshot(t *testing.T, name string, s api.Snapshot, want []byte, wantErr error) {
	t.Helper()
	b, err := Snapshot(s)
	isWritten(t, "Snapshot of "+name, b, err, want, wantErr)
}

func writesSpec(t *testing.T, name string, x api.Spec, want []byte, wantErr error) {
	t.Helper()
	b, err := Spec(x)
	isWritten(t, "Spec of "+name, b, err, want, wantErr)
}

func writesMoves(t *testing.T, name string, l []api.Move, want []byte, wantErr error) {
	t.Helper()
	b, err := Moves(l)
	isWritten(t, "Moves of "+name, b, err, want, wantErr)
}

// isRead holds what was read, or the zero value and the error told instead
// (R3), against what is due.
func isRead(t *testing.T, name string, got any, err error, want any, wantErr error) {
	t.Helper()
	sameError(t, name, err, wantErr)
	if !reflect.DeepEqual(got, want) {
		t.Errorf("%s: %v, want %v", name, got, want)
	}
}

func readsSnapshot(t *testing.T, name string, b []byte, want api.Snapshot, wantErr error) {
	t.Helper()
	s, err := ReadSnapshot(b)
	isRead(t, "ReadSnapshot of "+name, s, err, want, wantErr)
}

func readsSpec(t *testing.T, name string, b []byte, want api.Spec, wantErr error) {
	t.Helper()
	x, err := ReadSpec(b)
	isRead(t, "ReadSpec of "+name, x, err, want, wantErr)
}

func readsMoves(t *testing.T, name string, b []byte, want []api.Move, wantErr error) {
	t.Helper()
	l, err := ReadMoves(b)
	isRead(t, "ReadMoves of "+name, l, err, want, wantErr)
}

// faults are bytes that each of the three is told the same error of.
func faults(t *testing.T, name string, b []byte, want error) {
	t.Helper()
	readsSnapshot(t, name, b, api.Snapshot{}, want)
	readsSpec(t, name, b, api.Spec{}, want)
	readsMoves(t, name, b, nil, want)
}

func TestNumberByNumber(t *testing.T) { // P4.1, P4.2, P4.4
	for _, c := range snapshotSamples() {
		b := asBytes(c.numbers...)
		writesSnapshot(t, c.name, c.what, b, nil)
		readsSnapshot(t, c.name, b, c.what, nil)
	}
	for _, c := range specSamples() {
		b := asBytes(c.numbers...)
		writesSpec(t, c.name, c.what, b, nil)
		readsSpec(t, c.name, b, c.what, nil)
	}
	for _, c := range movesSamples() {
		b := asBytes(c.numbers...)
		writesMoves(t, c.name, c.what, b, nil)
		readsMoves(t, c.name, b, c.what, nil)
	}
}

func TestByteByByte(t *testing.T) { // P4.1, P4.2
	writesMoves(t, "none", nil, []byte{0x00}, nil)
	writesMoves(t, "an empty list", []api.Move{}, []byte{0x00}, nil)
	one := []byte{0x01, 0x04, 0xac, 0x02, 0x02, 0xff, 0xff, 0xff, 0xff, 0x07}
	writesMoves(t, "one", []api.Move{{Kind: 4, Pod: 300, Node: 2, Over: api.MaxId}}, one, nil)
	readsMoves(t, "one", one, []api.Move{{Kind: 4, Pod: 300, Node: 2, Over: api.MaxId}}, nil)
	want := []byte{0x01, 0x02, 0x80, 0x01, 0x05, 0x00, 0x7f, 0xac, 0x02, 0x09, 0x01}
	x := api.Spec{Preempts: 2, Shifts: 128, Wants: []api.Want{{Pod: 5, Req: api.Vec{0, 127, 300, 9}, Stay: true}}}
	writesSpec(t, "one want", x, want, nil)
	readsSpec(t, "one want", want, x, nil)
	writesSpec(t, "an empty list", api.Spec{Wants: []api.Want{}, Shifts: 1}, []byte{0x00, 0x00, 0x01}, nil)
	least := api.Snapshot{Nodes: []api.Node{{Id: 300, Zone: 8, Cap: api.Vec{1, 2, 3, 4}, Held: api.Vec{1}}}}
	b := []byte{0x01, 0x00, 0x00, 0xac, 0x02, 0x08, 0x01, 0x02, 0x03, 0x04, 0x01, 0x00, 0x00, 0x00}
	writesSnapshot(t, "one node", least, b, nil)
	readsSnapshot(t, "one node", b, least, nil)
	least.Loads, least.Pods = []api.Load{}, []api.Pod{}
	writesSnapshot(t, "one node, and empty lists", least, b, nil)
}

func TestHowManyMayBeWritten(t *testing.T) { // P4.1, P4.2
	for many := range api.MaxPods + 1 {
		x := api.Spec{Wants: wants(many)}
		b, err := Spec(x)
		if err != nil || len(b) != 3+6*many || b[0] != byte(many) {
			t.Errorf("%d wants: % x, %v", many, b, err)
		}
		readsSpec(t, "wants", b, x, nil)
	}
	for _, many := range []int{13, 14, 100, 1 << 16} {
		writesSpec(t, "too many wants", api.Spec{Wants: wants(many)}, nil, api.ErrArg)
		writesSpec(t, "too many wants of pod 0", api.Spec{Wants: make([]api.Want, many)}, nil, api.ErrArg)
	}
	for many := range api.MaxMoves + 1 {
		l := movesOf(many)
		b, err := Moves(l)
		if err != nil || len(b) != 1+4*many || b[0] != byte(many) {
			t.Errorf("%d moves: % x, %v", many, b, err)
		}
		readsMoves(t, "moves", b, l, nil)
	}
	for _, many := range []int{41, 42, 100, 1 << 16} {
		writesMoves(t, "too many moves", movesOf(many), nil, api.ErrArg)
		writesMoves(t, "too many zero moves", make([]api.Move, many), nil, api.ErrArg)
	}
	full := fullSnapshot()
	b, err := Snapshot(full)
	if err != nil || !bytes.Equal(b[:3], []byte{8, 8, 12}) {
		t.Errorf("the full snapshot: % x, %v", b, err)
	}
	readsSnapshot(t, "the full one", b, full, nil)
}

// numbersBeyond may not be written.
func numbersBeyond() []int {
	return []int{-1, -2, math.MinInt32, math.MinInt, beyond, beyond + 1, 1 << 32, 1<<32 + 1, math.MaxInt}
}

// numbersWithin may be written.
func numbersWithin() []int { return []int{0, 1, 41, 101, api.MaxId - 1, api.MaxId} }

func TestNumbersThatMayBeWritten(t *testing.T) { // P4.1
	for _, n := range numbersWithin() {
		u := uint64(n)
		writesSpec(t, "a budget", api.Spec{Preempts: n}, asBytes(0, u, 0), nil)
		writesSpec(t, "a budget", api.Spec{Shifts: n}, asBytes(0, 0, u), nil)
		writesSpec(t, "a pod", api.Spec{Wants: []api.Want{{Pod: n, Stay: true}}}, asBytes(1, 0, 0, u, 0, 0, 0, 0, 1), nil)
		writesMoves(t, "a kind", []api.Move{{Kind: n}}, asBytes(1, u, 0, 0, 0), nil)
		writesMoves(t, "a pod", []api.Move{{Pod: n}}, asBytes(1, 0, u, 0, 0), nil)
		writesMoves(t, "a node", []api.Move{{Node: n}}, asBytes(1, 0, 0, u, 0), nil)
		writesMoves(t, "an over", []api.Move{{Over: n}}, asBytes(1, 0, 0, 0, u), nil)
	}
}

func TestNumbersThatMayNotBeWritten(t *testing.T) { // P4.1, R3
	for _, n := range numbersBeyond() {
		writesSpec(t, "a budget", api.Spec{Preempts: n}, nil, api.ErrArg)
		writesSpec(t, "a budget", api.Spec{Shifts: n}, nil, api.ErrArg)
		for i := range api.MaxPods {
			x := api.Spec{Wants: wants(api.MaxPods)}
			x.Wants[i].Pod = n
			writesSpec(t, "a pod", x, nil, api.ErrArg)
		}
		for i := range api.MaxMoves {
			for k := range 4 {
				l := movesOf(api.MaxMoves)
				numbers := []*int{&l[i].Kind, &l[i].Pod, &l[i].Node, &l[i].Over}
				*numbers[k] = n
				writesMoves(t, "a number", l, nil, api.ErrArg)
			}
		}
	}
}

// atFault are snapshots of numbers that may be read, but that cluster.Check
// refuses; of one with several faults the error tells which one comes first.
func atFault() []struct {
	name string
	turn func(s *api.Snapshot)
	want error
} {
	return []struct {
		name string
		turn func(s *api.Snapshot)
		want error
	}{
		{"nothing", func(s *api.Snapshot) { *s = api.Snapshot{} }, api.ErrLarge},
		{"no nodes", func(s *api.Snapshot) { s.Nodes = nil }, api.ErrLarge},
		{"a node of Id 0", func(s *api.Snapshot) { s.Nodes[0].Id = 0 }, at(0, api.ErrArg)},
		{"a node twice", func(s *api.Snapshot) { s.Nodes[1].Id = 11 }, at(1, api.ErrTwice)},
		{"nodes out of order", func(s *api.Snapshot) { s.Nodes[1].Id = 10 }, at(1, api.ErrArg)},
		{"zone 0", func(s *api.Snapshot) { s.Nodes[0].Zone = 0 }, at(0, api.ErrArg)},
		{"zone 9", func(s *api.Snapshot) { s.Nodes[1].Zone = 9 }, at(1, api.ErrArg)},
		{"held above cap", func(s *api.Snapshot) { s.Nodes[1].Held[3] = 128 }, at(1, api.ErrArg)},
		{"a skew", func(s *api.Snapshot) { s.Loads[0].Skew = 101 }, at(2, api.ErrArg)},
		{"a least above the most", func(s *api.Snapshot) { s.Loads[0].Min = 91 }, at(2, api.ErrArg)},
		{"a most", func(s *api.Snapshot) { s.Loads[0].Max = 101 }, at(2, api.ErrArg)},
		{"no loads", func(s *api.Snapshot) { s.Loads = nil }, at(2, api.ErrNone)},
		{"a load that isn't there", func(s *api.Snapshot) { s.Pods[1].Load = 21 }, at(4, api.ErrNone)},
		{"a node that isn't there", func(s *api.Snapshot) { s.Pods[2].Node = 13 }, at(5, api.ErrNone)},
		{"a prio", func(s *api.Snapshot) { s.Pods[0].Prio = 101 }, at(3, api.ErrArg)},
		{"a pod twice", func(s *api.Snapshot) { s.Pods[1].Id = 31 }, at(4, api.ErrTwice)},
		{"a pod and a load", func(s *api.Snapshot) { s.Pods[0].Id, s.Loads[0].Id = 0, 0 }, at(2, api.ErrArg)},
	}
}

func TestSnapshotsThatMayNotBe(t *testing.T) { // P4.1, P4.2, R3
	for _, c := range atFault() {
		s := mixedSnapshot()
		c.turn(&s)
		sameError(t, "Check of "+c.name, cluster.Check(s), c.want)
		writesSnapshot(t, c.name, s, nil, c.want)
		readsSnapshot(t, c.name, asBytes(snapshotNumbers(s)...), api.Snapshot{}, c.want)
	}
}

func TestSnapshotsThatAreNotWritten(t *testing.T) { // P4.1, R3
	for _, n := range numbersBeyond() {
		s := mixedSnapshot()
		s.Nodes[0].Id = n
		writesSnapshot(t, "a node", s, nil, at(0, api.ErrArg))
		s = mixedSnapshot()
		s.Pods[2].Id = n
		writesSnapshot(t, "a pod", s, nil, at(5, api.ErrArg))
		s = mixedSnapshot()
		s.Pods[2].Node = n
		writesSnapshot(t, "a pod's node", s, nil, at(5, api.ErrNone))
	}
	for _, add := range []func(s *api.Snapshot){
		func(s *api.Snapshot) { s.Nodes = append(s.Nodes, api.Node{Id: 999, Zone: 1}) },
		func(s *api.Snapshot) { s.Loads = append(s.Loads, api.Load{Id: 999}) },
		func(s *api.Snapshot) { s.Pods = append(s.Pods, api.Pod{Id: 999, Load: 200}) },
	} {
		s := fullSnapshot()
		add(&s)
		writesSnapshot(t, "one more than there may be", s, nil, api.ErrLarge)
		b := asBytes(snapshotNumbers(s)...)
		readsSnapshot(t, "one more than there may be", b, api.Snapshot{}, api.ErrLarge)
	}
}

func TestBytesThatAreNoNumbers(t *testing.T) { // P4.2, R1
	bad := [][]byte{
		{0x80},
		{0xff, 0xff},
		{0x80, 0x00},
		{0x81, 0x80, 0x00},
		bytes.Repeat([]byte{0xff}, 10),
		append(bytes.Repeat([]byte{0x80}, 9), 0x02),
	}
	// Ahead of those stand numbers that are at fault as well, in each way.
	ahead := [][]uint64{
		nil, {0}, {0, 0}, {0, 0, 0}, {1, 0, 0, 1}, {top}, {9, 9, 13}, {13, 0, 0}, {41}, {100, top, top},
		{1, 0, 0, 5, 0, 0, 0, 0, 2}, {1, 4, beyond, 0, 0}, {0, 0, 0, 0}, mixedSnapshotNumbers(),
	}
	for _, l := range ahead {
		good := asBytes(l...)
		for _, tail := range bad {
			faults(t, "misshapen bytes", slices.Concat(good, tail), at(len(good), api.ErrForm))
		}
		faults(t, "misshapen bytes ahead of others", slices.Concat(good, []byte{0x80, 0x00}, good), at(len(good), api.ErrForm))
	}
}

func TestTooFewFirstNumbers(t *testing.T) { // P4.2, R3
	faults(t, "nil", nil, api.ErrForm)
	faults(t, "no bytes", []byte{}, api.ErrForm)
	// With fewer than the first ones, none of them is too great.
	for _, l := range [][]uint64{
		{0}, {1}, {8}, {9}, {13}, {41}, {api.MaxId}, {beyond}, {top},
		{0, 0}, {1, 1}, {9, 9}, {13, 13}, {1, 9}, {top, top}, {1, top}, {0, api.MaxId}, {api.MaxId, 0},
	} {
		readsSnapshot(t, "two or one", asBytes(l...), api.Snapshot{}, api.ErrForm)
		readsSpec(t, "two or one", asBytes(l...), api.Spec{}, api.ErrForm)
	}
}

func TestFewerAndMoreNumbers(t *testing.T) { // P4.2, R3
	for _, c := range snapshotSamples() {
		for size := range len(c.numbers) {
			readsSnapshot(t, "fewer", asBytes(c.numbers[:size]...), api.Snapshot{}, api.ErrForm)
		}
		for _, n := range []uint64{0, 1, api.MaxId, top} {
			readsSnapshot(t, "one more", asBytes(append(slices.Clone(c.numbers), n)...), api.Snapshot{}, api.ErrForm)
		}
		readsSnapshot(t, "all twice", asBytes(append(slices.Clone(c.numbers), c.numbers...)...), api.Snapshot{}, api.ErrForm)
	}
	for _, c := range specSamples() {
		for size := range len(c.numbers) {
			readsSpec(t, "fewer", asBytes(c.numbers[:size]...), api.Spec{}, api.ErrForm)
		}
		for _, n := range []uint64{0, 1, api.MaxId, top} {
			readsSpec(t, "one more", asBytes(append(slices.Clone(c.numbers), n)...), api.Spec{}, api.ErrForm)
		}
	}
	for _, c := range movesSamples() {
		for size := range len(c.numbers) {
			readsMoves(t, "fewer", asBytes(c.numbers[:size]...), nil, api.ErrForm)
		}
		for _, n := range []uint64{0, 1, api.MaxId, top} {
			readsMoves(t, "one more", asBytes(append(slices.Clone(c.numbers), n)...), nil, api.ErrForm)
		}
	}
}

// turned are the sample's numbers with another one at a place.
func turned(l []uint64, place int, n uint64) []byte {
	l = slices.Clone(l)
	l[place] = n
	return asBytes(l...)
}

func TestCountsThatTellOtherwise(t *testing.T) { // P4.2
	// Each of the first numbers tells one less, or one more, than there are.
	l := mixedSnapshotNumbers()
	for place := range 3 {
		readsSnapshot(t, "one less", turned(l, place, l[place]-1), api.Snapshot{}, api.ErrForm)
		readsSnapshot(t, "one more", turned(l, place, l[place]+1), api.Snapshot{}, api.ErrForm)
	}
	for _, many := range []uint64{0, 1, 2, 4, 12} {
		readsSpec(t, "another count", turned(specSamples()[3].numbers, 0, many), api.Spec{}, api.ErrForm)
	}
	for _, many := range []uint64{0, 1, 2, 3, 5, 40} {
		readsMoves(t, "another count", turned(movesSamples()[2].numbers, 0, many), nil, api.ErrForm)
	}
}

func TestTruths(t *testing.T) { // P4.2
	const apart = 24
	for n := range uint64(2) {
		s := mixedSnapshot()
		s.Loads[0].Apart = n == 1
		readsSnapshot(t, "0 or 1", turned(mixedSnapshotNumbers(), apart, n), s, nil)
	}
	stays := []int{8, 14, 20}
	for i, place := range stays {
		for n := range uint64(2) {
			x := specSamples()[3].what
			x.Wants[i].Stay = n == 1
			readsSpec(t, "0 or 1", turned(specSamples()[3].numbers, place, n), x, nil)
		}
	}
	for _, n := range []uint64{2, 3, 127, 128, 256, 257, 1 << 32, 1<<32 + 1, api.MaxId, beyond, top} {
		readsSnapshot(t, "no truth", turned(mixedSnapshotNumbers(), apart, n), api.Snapshot{}, api.ErrForm)
		for _, place := range stays {
			readsSpec(t, "no truth", turned(specSamples()[3].numbers, place, n), api.Spec{}, api.ErrForm)
		}
	}
}

// tooGreat are above MaxId; without their high bits some of them aren't.
func tooGreat() []uint64 {
	return []uint64{beyond, beyond + 1, 1 << 32, 1<<32 + 1, 1<<32 + 12, 1 << 63, 1<<63 + 1, top}
}

func TestNumbersAboveMaxId(t *testing.T) { // P4.2
	for _, n := range tooGreat() {
		// Of a node, a load and three pods: what isn't one of a Vec's.
		for _, place := range []int{3, 4, 13, 14, 23, 25, 26, 27, 28, 29, 30, 35, 36, 37, 38, 43, 44, 45, 46, 51} {
			readsSnapshot(t, "a great number", turned(mixedSnapshotNumbers(), place, n), api.Snapshot{}, api.ErrForm)
		}
		for _, place := range []int{1, 2, 3, 9, 15} {
			readsSpec(t, "a great number", turned(specSamples()[3].numbers, place, n), api.Spec{}, api.ErrForm)
		}
		for place := 1; place <= 16; place++ {
			readsMoves(t, "a great number", turned(movesSamples()[2].numbers, place, n), nil, api.ErrForm)
		}
		readsSpec(t, "a great budget", asBytes(0, n, 0), api.Spec{}, api.ErrForm)
		readsSpec(t, "a great budget", asBytes(0, 0, n), api.Spec{}, api.ErrForm)
	}
}

func TestGreatNumbersOfVecs(t *testing.T) { // P4.1, P4.2, P4.4
	for _, n := range append(tooGreat(), 0, api.MaxId, top-1) {
		for k := range 4 {
			s := mixedSnapshot()
			s.Nodes[0].Cap[k], s.Nodes[0].Held[k], s.Pods[1].Req[k] = n, n, n
			b := asBytes(snapshotNumbers(s)...)
			writesSnapshot(t, "great amounts", s, b, nil)
			readsSnapshot(t, "great amounts", b, s, nil)
			x := specSamples()[3].what
			x.Wants[0].Req[k], x.Wants[1].Req[k] = n, n
			b = asBytes(specNumbers(x)...)
			writesSpec(t, "great amounts", x, b, nil)
			readsSpec(t, "great amounts", b, x, nil)
		}
	}
}

func TestTooManyAheadOfTheForm(t *testing.T) { // P4.2, R1
	for _, many := range []uint64{9, 10, 13, api.MaxId, beyond, 1 << 32, 1<<32 + 1, top} {
		for _, rest := range [][]uint64{nil, {0}, {beyond}, mixedSnapshotNumbers()} {
			for _, first := range [][]uint64{{many, 0, 0}, {1, many, 0}, {0, many, top}, {many, 1, 12}, {8, 8, max(13, many)}} {
				readsSnapshot(t, "too many", asBytes(append(first, rest...)...), api.Snapshot{}, api.ErrLarge)
			}
		}
	}
	for _, many := range []uint64{13, 14, api.MaxId, beyond, 1 << 32, 1<<32 + 1, top} {
		for _, rest := range [][]uint64{{0, 0}, {top, top}, {beyond, 0, 1}, {0, 0, 1, 0, 0, 0, 0, 2}} {
			readsSpec(t, "too many", asBytes(append([]uint64{many}, rest...)...), api.Spec{}, api.ErrLarge)
		}
	}
	for _, many := range []uint64{41, 42, api.MaxId, beyond, 1 << 32, 1<<32 + 1, top} {
		for _, rest := range [][]uint64{nil, {0}, {top}, {1, 2, 3, beyond}} {
			readsMoves(t, "too many", asBytes(append([]uint64{many}, rest...)...), nil, api.ErrLarge)
		}
	}
	// As many as there may be are too few numbers, and no more than that.
	readsSnapshot(t, "as many as may be", asBytes(8, 8, 12), api.Snapshot{}, api.ErrForm)
	readsSpec(t, "as many as may be", asBytes(12, 0, 0), api.Spec{}, api.ErrForm)
	readsMoves(t, "as many as may be", asBytes(40), nil, api.ErrForm)
	// One more than there may be, with all their numbers.
	readsSpec(t, "all their numbers", asBytes(specNumbers(api.Spec{Wants: wants(13)})...), api.Spec{}, api.ErrLarge)
	readsMoves(t, "all their numbers", asBytes(movesNumbers(movesOf(41))...), nil, api.ErrLarge)
}

func TestTheFormAheadOfTheSnapshot(t *testing.T) { // P4.2, R1
	for _, c := range atFault() {
		s := mixedSnapshot()
		c.turn(&s)
		l := snapshotNumbers(s)
		readsSnapshot(t, c.name+", and one more", asBytes(append(l, 0)...), api.Snapshot{}, api.ErrForm)
		readsSnapshot(t, c.name+", and one less", asBytes(l[:len(l)-1]...), api.Snapshot{}, api.ErrForm)
		if len(s.Pods) > 0 {
			readsSnapshot(t, c.name+", and a great one", turned(l, len(l)-1, beyond), api.Snapshot{}, api.ErrForm)
		}
	}
	readsSnapshot(t, "no nodes, and one more", asBytes(0, 0, 0, 0), api.Snapshot{}, api.ErrForm)
	readsSnapshot(t, "no nodes", asBytes(0, 0, 0), api.Snapshot{}, api.ErrLarge)
}

func TestManyBytes(t *testing.T) { // P1, P4.2
	faults(t, "many zeros", make([]byte, 1<<20), api.ErrForm)
	faults(t, "many bytes", bytes.Repeat([]byte{0x7f}, 1<<20), api.ErrLarge)
	faults(t, "many bytes without an end", bytes.Repeat([]byte{0xff}, 1<<20), at(0, api.ErrForm))
	faults(t, "many ones", bytes.Repeat([]byte{1}, 1<<20), api.ErrForm)
}

func TestWhatIsHandedInStays(t *testing.T) { // P4.3
	s, x, l := mixedSnapshot(), specSamples()[3].what, movesSamples()[2].what
	for range 2 {
		Snapshot(s)
		Spec(x)
		Moves(l)
	}
	// What stands behind a list's end stays, too.
	Spec(api.Spec{Wants: x.Wants[:1]})
	Moves(l[:1])
	Snapshot(api.Snapshot{Nodes: s.Nodes[:1], Loads: s.Loads[:0], Pods: s.Pods[:0]})
	if !reflect.DeepEqual(s, mixedSnapshot()) {
		t.Errorf("the snapshot became %v", s)
	}
	if !reflect.DeepEqual(x, specSamples()[3].what) {
		t.Errorf("the spec became %v", x)
	}
	if !slices.Equal(l, movesSamples()[2].what) {
		t.Errorf("the moves became %v", l)
	}
	for _, numbers := range [][]uint64{mixedSnapshotNumbers(), specSamples()[3].numbers, movesSamples()[2].numbers} {
		b := asBytes(numbers...)
		was := slices.Clone(b)
		for size := range len(b) + 1 {
			ReadSnapshot(b[:size])
			ReadSpec(b[:size])
			ReadMoves(b[:size])
		}
		if !bytes.Equal(b, was) {
			t.Errorf("the bytes % x became % x", was, b)
		}
	}
}

func TestBytesAreNewMemory(t *testing.T) { // P4.3
	s, x, l := mixedSnapshot(), specSamples()[3].what, movesSamples()[2].what
	for _, write := range []func() ([]byte, error){
		func() ([]byte, error) { return Snapshot(s) },
		func() ([]byte, error) { return Spec(x) },
		func() ([]byte, error) { return Moves(l) },
		func() ([]byte, error) { return Moves(nil) },
	} {
		one, _ := write()
		other, _ := write()
		want := slices.Clone(other)
		for i := range one {
			one[i] ^= 0xff
		}
		clear(one[len(one):cap(one)])
		if third, _ := write(); !bytes.Equal(other, want) || !bytes.Equal(third, want) {
			t.Error("two answers share memory")
		}
	}
}

func TestWhatIsReadIsNewMemory(t *testing.T) { // P4.3
	sb, xb, lb := asBytes(mixedSnapshotNumbers()...), asBytes(specSamples()[3].numbers...), asBytes(movesSamples()[2].numbers...)
	s1, _ := ReadSnapshot(sb)
	s2, _ := ReadSnapshot(sb)
	x1, _ := ReadSpec(xb)
	x2, _ := ReadSpec(xb)
	l1, _ := ReadMoves(lb)
	l2, _ := ReadMoves(lb)
	for _, b := range [][]byte{sb, xb, lb} {
		clear(b)
	}
	clear(s1.Nodes[:cap(s1.Nodes)])
	clear(s1.Loads[:cap(s1.Loads)])
	clear(s1.Pods[:cap(s1.Pods)])
	clear(x1.Wants[:cap(x1.Wants)])
	clear(l1[:cap(l1)])
	if !reflect.DeepEqual(s2, mixedSnapshot()) || !reflect.DeepEqual(x2, specSamples()[3].what) || !slices.Equal(l2, movesSamples()[2].what) {
		t.Errorf("two answers, or an answer and its bytes, share memory: %v, %v, %v", s2, x2, l2)
	}
}

func TestFaultsAreNewMemory(t *testing.T) { // P4.3
	bad := []byte{0x01, 0x80}
	twice := mixedSnapshot()
	twice.Nodes[1].Id = 11
	for _, fail := range []func() error{
		func() error { _, err := ReadSnapshot(bad); return err },
		func() error { _, err := ReadSpec(bad); return err },
		func() error { _, err := ReadMoves(bad); return err },
		func() error { _, err := Snapshot(twice); return err },
		func() error { _, err := ReadSnapshot(asBytes(snapshotNumbers(twice)...)); return err },
	} {
		one, other := fail(), fail()
		one.(*api.Spot).At = 99
		sameError(t, "the other one", other, at(1, other.(*api.Spot).Err))
		sameError(t, "a third one", fail(), other)
	}
}
