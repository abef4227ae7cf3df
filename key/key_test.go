package key

import (
	"math"
	"reflect"
	"slices"
	"strings"
	"testing"

	"dunnage/api"
	"dunnage/state"
)

const top = math.MaxUint64

// keyed holds Of against the bytes that are due.
func keyed(t *testing.T, name string, at api.State, due ...byte) {
	t.Helper()
	for range 2 { // the second time it is told the same
		if k := Of(at); k != string(due) {
			t.Errorf("%s: the key is % x, want % x", name, k, due)
		}
	}
}

// leastAt holds Least against the place that is due.
func leastAt(t *testing.T, name string, due int, l ...api.State) {
	t.Helper()
	for range 2 {
		if place := Least(l); place != due {
			t.Errorf("%s: the least is at %d, want %d", name, place, due)
		}
	}
}

// of is a state of one pod of this Id.
func of(id int) api.State { return api.State{Pods: []api.Pod{{Id: id}}} }

// used is a state without pods.
func used(preempts, shifts int) api.State {
	return api.State{Preempts: preempts, Shifts: shifts}
}

// one is a state of one pod, whose numbers are all different.
func one() api.State {
	return api.State{
		Pods:     []api.Pod{{Id: 2, Load: 3, Prio: 4, Req: api.Vec{5, 6, 7, 8}, Node: 9}},
		Preempts: 10,
		Shifts:   11,
	}
}

// three is a state of three pods, by no order of their Ids.
func three() api.State {
	return api.State{
		Pods: []api.Pod{
			{Id: 30, Load: 2, Prio: 7, Req: api.Vec{1, 2, 3, 4}, Node: 5},
			{Id: 10, Load: 1, Prio: 8, Req: api.Vec{6, 0, 0, 9}},
			{Id: 20, Load: 2, Prio: 0, Req: api.Vec{0, 5, 4, 0}, Node: 3},
		},
		Preempts: 1,
		Shifts:   2,
	}
}

// The document's example.
func TestNoPods(t *testing.T) { // P17.1
	keyed(t, "nil", api.State{}, 0, 0, 0)
	keyed(t, "empty", api.State{Pods: []api.Pod{}}, 0, 0, 0)
	keyed(t, "empty, with pods behind its end", api.State{Pods: one().Pods[:0]}, 0, 0, 0)
	keyed(t, "Preempts", used(7, 0), 0, 7, 0)
	keyed(t, "Shifts", used(0, 7), 0, 0, 7)
	keyed(t, "both", used(3, 4), 0, 3, 4)
}

func TestOnePod(t *testing.T) { // P17.1
	keyed(t, "all different", one(), 1, 2, 3, 4, 5, 6, 7, 8, 9, 10, 11)
	keyed(t, "all 0", of(0), 1, 0, 0, 0, 0, 0, 0, 0, 0, 0, 0)
	at := one()
	at.Pods[0].Node = 0
	keyed(t, "nowhere", at, 1, 2, 3, 4, 5, 6, 7, 8, 0, 10, 11)
}

func TestSeveralPods(t *testing.T) { // P17.1
	keyed(t, "in the order in which they stand", three(), 3,
		30, 2, 7, 1, 2, 3, 4, 5,
		10, 1, 8, 6, 0, 0, 9, 0,
		20, 2, 0, 0, 5, 4, 0, 3,
		1, 2)
	at := three()
	slices.Reverse(at.Pods)
	keyed(t, "the other way round", at, 3,
		20, 2, 0, 0, 5, 4, 0, 3,
		10, 1, 8, 6, 0, 0, 9, 0,
		30, 2, 7, 1, 2, 3, 4, 5,
		1, 2)
	at.Pods = at.Pods[:2]
	keyed(t, "the first two of them", at, 2,
		20, 2, 0, 0, 5, 4, 0, 3,
		10, 1, 8, 6, 0, 0, 9, 0,
		1, 2)
	at.Pods[1] = at.Pods[0]
	keyed(t, "one twice", at, 2,
		20, 2, 0, 0, 5, 4, 0, 3,
		20, 2, 0, 0, 5, 4, 0, 3,
		1, 2)
}

// written are numbers beside their bytes: the last of each length, the first of
// the next one, the greatest, and those below 0, as 2^64 more.
func written() []struct {
	n uint64
	b string
} {
	return []struct {
		n uint64
		b string
	}{
		{0, "\x00"},
		{1, "\x01"},
		{127, "\x7f"},
		{128, "\x80\x01"},
		{300, "\xac\x02"},
		{1<<14 - 1, "\xff\x7f"},
		{1 << 14, "\x80\x80\x01"},
		{api.MaxId, "\xff\xff\xff\xff\x07"},
		{1 << 62, "\x80\x80\x80\x80\x80\x80\x80\x80\x40"},
		{math.MaxInt, "\xff\xff\xff\xff\xff\xff\xff\xff\x7f"},
		{below(math.MinInt), "\x80\x80\x80\x80\x80\x80\x80\x80\x80\x01"},
		{below(math.MinInt + 1), "\x81\x80\x80\x80\x80\x80\x80\x80\x80\x01"},
		{below(-300), "\xd4\xfd\xff\xff\xff\xff\xff\xff\xff\x01"},
		{below(-128), "\x80\xff\xff\xff\xff\xff\xff\xff\xff\x01"},
		{below(-2), "\xfe\xff\xff\xff\xff\xff\xff\xff\xff\x01"},
		{below(-1), "\xff\xff\xff\xff\xff\xff\xff\xff\xff\x01"},
	}
}

// below is a number below 0, as 2^64 more.
func below(n int) uint64 { return top - uint64(-1-n) }

// set is a state like this one, but for one number: 1 to 8 are the pod's, in a
// key's order, 9 and 10 are Preempts and Shifts.
func set(at api.State, pod, place int, n uint64) api.State {
	at.Pods = slices.Clone(at.Pods)
	switch p := &at.Pods[pod]; place {
	case 1:
		p.Id = int(n)
	case 2:
		p.Load = int(n)
	case 3:
		p.Prio = int(n)
	case 8:
		p.Node = int(n)
	case 9:
		at.Preempts = int(n)
	case 10:
		at.Shifts = int(n)
	default:
		p.Req[place-4] = n
	}
	return at
}

// with is the key of one, with other bytes at this place.
func with(place int, b string) string {
	k := []string{"\x01", "\x02", "\x03", "\x04", "\x05", "\x06", "\x07", "\x08", "\x09", "\x0a", "\x0b"}
	k[place] = b
	return strings.Join(k, "")
}

func TestEachNumber(t *testing.T) { // P17.1
	for _, c := range written() {
		for place := 1; place <= 10; place++ {
			keyed(t, "one number", set(one(), 0, place, c.n), []byte(with(place, c.b))...)
		}
	}
}

// All numbers at once are the greatest, or the least, or the like.
func TestAllNumbers(t *testing.T) { // P17.1
	for _, c := range written() {
		at := one()
		for place := 1; place <= 10; place++ {
			at = set(at, 0, place, c.n)
		}
		at.Pods = append(at.Pods, at.Pods[0])
		keyed(t, "all numbers", at, []byte("\x02"+strings.Repeat(c.b, 18))...)
	}
}

// How many pods there are takes more than one byte, too.
func TestManyPods(t *testing.T) { // P17.1, P1
	for _, c := range []struct {
		many int
		b    string
	}{
		{api.MaxPods, "\x0c"}, {127, "\x7f"}, {128, "\x80\x01"}, {300, "\xac\x02"},
		{1<<14 - 1, "\xff\x7f"}, {1 << 14, "\x80\x80\x01"}, {1 << 18, "\x80\x80\x10"},
	} {
		at := api.State{Pods: make([]api.Pod, c.many), Shifts: 5}
		for i := range at.Pods {
			at.Pods[i].Node = 4
		}
		pods := strings.Repeat("\x00\x00\x00\x00\x00\x00\x00\x04", c.many)
		if k := Of(at); k != c.b+pods+"\x00\x05" {
			t.Errorf("%d pods have another key, of %d bytes", c.many, len(k))
		}
		leastAt(t, "and fewer", 1, at, used(9, 9))
	}
}

func TestLeastOfNone(t *testing.T) { // P17.1
	if nil, empty := Least(nil), Least([]api.State{}); nil != -1 || empty != -1 {
		t.Errorf("of none the least is at %d and %d", nil, empty)
	}
	leastAt(t, "with states behind its end", -1, []api.State{one(), of(1)}[:0]...)
}

func TestLeast(t *testing.T) { // P17.1
	leastAt(t, "one", 0, three())
	leastAt(t, "one without pods", 0, api.State{})
	leastAt(t, "the first", 0, of(1), of(2), of(3))
	leastAt(t, "the last", 2, of(3), of(2), of(1))
	leastAt(t, "between", 2, of(4), of(3), of(1), of(2))
	leastAt(t, "between, of two", 1, of(2), of(1), of(3))
	leastAt(t, "what stands behind its end isn't asked", 1, []api.State{of(4), of(3), of(1)}[:2]...)
}

func TestTheFirstOfSeveralThatHaveTheLeast(t *testing.T) { // P17.1, R1
	leastAt(t, "all", 0, of(1), of(1), of(1))
	leastAt(t, "the last two", 1, of(2), of(1), of(1))
	leastAt(t, "the first and the last", 0, of(1), of(2), of(1))
	leastAt(t, "two between", 2, of(3), of(2), of(1), of(2), of(1), of(3))
	leastAt(t, "nil and empty", 1, of(1), api.State{}, api.State{Pods: []api.Pod{}}, of(1))
	leastAt(t, "empty and nil", 1, of(1), api.State{Pods: []api.Pod{}}, api.State{}, of(1))
}

// Two that differ in the last number's byte alone, or in that of another one.
func TestKeysThatDifferInOneByte(t *testing.T) { // P17.1
	for pod := range 3 {
		for place := 1; place <= 10; place++ {
			more, less := set(three(), pod, place, 50), set(three(), pod, place, 49)
			leastAt(t, "the less one is the second", 1, more, less)
			leastAt(t, "the less one is the first", 0, less, more)
			leastAt(t, "the less one is between", 1, more, less, more)
		}
	}
	// c8 01 beside c8 02.
	leastAt(t, "the later byte of one number", 1, of(328), of(200))
	leastAt(t, "the last byte of all", 1, used(0, 328), used(0, 200))
	leastAt(t, "the greatest, and one below it", 1, used(0, -1), used(0, -1<<57-1))
	// An earlier number counts ahead of a later one.
	leastAt(t, "Id and Load", 1,
		api.State{Pods: []api.Pod{{Id: 2, Load: 1}}}, api.State{Pods: []api.Pod{{Id: 1, Load: 2}}})
	leastAt(t, "Req and Node", 1,
		api.State{Pods: []api.Pod{{Req: api.Vec{0, 0, 0, 2}, Node: 1}}}, api.State{Pods: []api.Pod{{Req: api.Vec{0, 0, 0, 1}, Node: 2}}})
	leastAt(t, "Preempts and Shifts", 1, used(2, 1), used(1, 2))
	leastAt(t, "Node and Preempts", 1,
		api.State{Pods: []api.Pod{{Node: 2}}}, api.State{Pods: []api.Pod{{Node: 1}}, Preempts: 9})
	leastAt(t, "how many pods, and what is used", 1, of(0), used(127, 127))
	leastAt(t, "fewer pods, of greater Ids", 1,
		api.State{Pods: make([]api.Pod, 2)}, of(100))
}

// Byte by byte keys stand otherwise than the numbers that they are of.
func TestLeastByteByByte(t *testing.T) { // P17.1
	// 02 is below 80 01, as 2 is below 128; 80 02, of 256, is below 81 01, of 129.
	leastAt(t, "128 and 2", 1, of(128), of(2))
	leastAt(t, "128 and 127", 1, of(128), of(127))
	leastAt(t, "129 and 256", 1, of(129), of(256))
	leastAt(t, "256 and 129", 0, of(256), of(129))
	leastAt(t, "255 and 1 << 14", 1, of(255), of(1<<14))
	leastAt(t, "used 255 and 256", 1, used(255, 0), used(256, 0))
	leastAt(t, "shifted 255 and 256", 1, used(0, 255), used(0, 256))
	// The first byte tells, and not how many there are.
	leastAt(t, "two bytes beside one", 1, used(128, 0), used(127, 127))
	leastAt(t, "many beside two", 1, of(129), of(1<<62))
	// A number below 0 is as 2^64 more.
	leastAt(t, "-1 and 0", 1, of(-1), of(0))
	leastAt(t, "-1 and 127", 1, of(-1), of(127))
	leastAt(t, "-1 and 255", 1, of(-1), of(255))
	leastAt(t, "-1 and the greatest", 1, of(-1), of(math.MaxInt))
	leastAt(t, "-1 and -2", 1, of(-1), of(-2))
	leastAt(t, "129 and the least", 1, of(129), of(math.MinInt))
	leastAt(t, "128 and -128", 0, of(128), of(-128))
	leastAt(t, "129 and -128", 1, of(129), of(-128))
	leastAt(t, "used -1 and 5", 1, used(-1, 0), used(5, 0))
	leastAt(t, "shifted -1 and 5", 1, used(0, -1), used(0, 5))
	// So many pods that this takes two bytes beside so many that it takes one.
	leastAt(t, "256 pods and 129", 0,
		api.State{Pods: make([]api.Pod, 256)}, api.State{Pods: make([]api.Pod, 129)})
	// A byte above 7f isn't below 0, and no letter.
	leastAt(t, "80 01 and 7f", 1, of(128), of(127))
	leastAt(t, "c1 01 and bf 01", 1, of(193), of(191))
}

// Numbers of all lengths, and below 0 or not, beside each other, in each place.
func TestLeastOfEachNumber(t *testing.T) { // P17.1
	for _, a := range written() {
		for _, b := range written() {
			due := 0
			if b.b < a.b {
				due = 1
			}
			for place := 1; place <= 10; place++ {
				leastAt(t, "one number", due, set(one(), 0, place, a.n), set(one(), 0, place, b.n))
			}
		}
	}
}

// Two that aren't alike have other keys: in each number, in how many pods there
// are, and in their order.
func TestTwoThatAreNotAlike(t *testing.T) { // P17.2
	keys := map[string]api.State{}
	other := func(at api.State) {
		t.Helper()
		if was, ok := keys[Of(at)]; ok {
			t.Errorf("%v and %v have one key", was, at)
		}
		keys[Of(at)] = at
	}
	other(three())
	for place := 1; place <= 10; place++ {
		for pod := range 3 {
			other(set(three(), pod, place, 1000))
			if place > 8 {
				break // it is no pod's
			}
		}
	}
	for n := range 3 {
		at := three()
		at.Pods = at.Pods[:n]
		other(at)
		at = three()
		at.Pods[n], at.Pods[(n+1)%3] = at.Pods[(n+1)%3], at.Pods[n]
		other(at)
	}
	// A pod of zeros more isn't what was used, and what was used isn't a pod.
	other(api.State{})
	other(of(0))
	other(api.State{Pods: make([]api.Pod, 2)})
	other(used(0, 1))
	other(used(1, 0))
	other(api.State{Pods: []api.Pod{{Node: 1}}})
	other(used(-1, 0))
	other(used(math.MaxInt, 0))
	other(used(math.MinInt, 0))
}

func TestTwoThatAreAlike(t *testing.T) { // P17.2
	for _, at := range []api.State{{}, of(0), of(-1), one(), three(), used(-3, 4)} {
		other := at
		other.Pods = append(make([]api.Pod, 0, 50), at.Pods...)
		if !state.Same(at, other) || Of(at) != Of(other) {
			t.Errorf("%v: the keys are % x and % x", at, Of(at), Of(other))
		}
	}
}

// samples are states with pods behind the ends of their lists, in a list with
// states behind its end.
func samples() []api.State {
	l := []api.State{three(), one(), of(-1), {}, of(128), {Pods: []api.Pod{}}, three()}
	for i := range l {
		l[i].Pods = append(l[i].Pods, api.Pod{Id: 77, Load: -7, Node: 7}, api.Pod{Id: -77})
		l[i].Pods = l[i].Pods[:len(l[i].Pods)-2]
	}
	return append(l, used(0, 1), api.State{})[:len(l)]
}

// whole is all of the list, and of its states' pods, up to their capacity.
func whole(l []api.State) []any {
	w := []any{cap(l)}
	for _, at := range l[:cap(l)] {
		w = append(w, at.Pods == nil, at.Pods[:cap(at.Pods)], at.Preempts, at.Shifts)
	}
	return w
}

func TestWhatIsHandedInStays(t *testing.T) { // R2
	l, was := samples(), samples()
	for _, at := range l {
		Of(at)
	}
	for n := range len(l) + 1 {
		Least(l[:n])
	}
	if !reflect.DeepEqual(whole(l), whole(was)) {
		t.Errorf("%v became %v", was, l)
	}
}

// A key that was told stays, whatever becomes of its state.
func TestAKeyIsNewMemory(t *testing.T) { // R2
	at := three()
	k := Of(at)
	was := strings.Clone(k)
	for i := range at.Pods {
		at.Pods[i] = api.Pod{Id: 99}
	}
	if k != was || Of(three()) != was || Of(at) == was {
		t.Errorf("the key % x became % x", was, k)
	}
}

// Nothing is kept from call to call.
func TestTheSameCallIsToldTheSame(t *testing.T) { // R4
	l := samples()
	var keys []string
	for _, at := range l {
		keys = append(keys, Of(at))
	}
	for n := range len(l) + 1 {
		before := Least(l[:n])
		for i, at := range l {
			if Of(at) != keys[i] {
				t.Errorf("%v: the key is % x, and was % x", at, Of(at), keys[i])
			}
		}
		if place := Least(l[:n]); place != before {
			t.Errorf("of %d the least is at %d, and was at %d", n, place, before)
		}
	}
}

func TestManyStates(t *testing.T) { // P1
	l := make([]api.State, 1<<16)
	for i := range l {
		l[i] = api.State{Pods: three().Pods, Preempts: len(l) - i}
	}
	leastAt(t, "1 is the last one", len(l)-1, l...)
	leastAt(t, "256, ahead of 129", len(l)-256, l[:len(l)-128]...)
}
