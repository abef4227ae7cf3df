package wire

import (
	"bytes"
	"errors"
	"math"
	"math/big"
	"slices"
	"testing"

	"dunnage/api"
)

const top = 1<<64 - 1

// written are numbers beside their bytes, as the chapter's words make them:
// the first and the last number of each length.
func written() []struct {
	n uint64
	b []byte
} {
	return []struct {
		n uint64
		b []byte
	}{
		{0, []byte{0x00}},
		{1, []byte{0x01}},
		{127, []byte{0x7f}},
		{128, []byte{0x80, 0x01}},
		{300, []byte{0xac, 0x02}},
		{1<<14 - 1, []byte{0xff, 0x7f}},
		{1 << 14, []byte{0x80, 0x80, 0x01}},
		{1<<21 - 1, []byte{0xff, 0xff, 0x7f}},
		{1 << 21, []byte{0x80, 0x80, 0x80, 0x01}},
		{1<<28 - 1, []byte{0xff, 0xff, 0xff, 0x7f}},
		{1 << 28, []byte{0x80, 0x80, 0x80, 0x80, 0x01}},
		{1<<35 - 1, []byte{0xff, 0xff, 0xff, 0xff, 0x7f}},
		{1 << 35, []byte{0x80, 0x80, 0x80, 0x80, 0x80, 0x01}},
		{1<<42 - 1, []byte{0xff, 0xff, 0xff, 0xff, 0xff, 0x7f}},
		{1 << 42, []byte{0x80, 0x80, 0x80, 0x80, 0x80, 0x80, 0x01}},
		{1<<49 - 1, []byte{0xff, 0xff, 0xff, 0xff, 0xff, 0xff, 0x7f}},
		{1 << 49, []byte{0x80, 0x80, 0x80, 0x80, 0x80, 0x80, 0x80, 0x01}},
		{1<<56 - 1, []byte{0xff, 0xff, 0xff, 0xff, 0xff, 0xff, 0xff, 0x7f}},
		{1 << 56, []byte{0x80, 0x80, 0x80, 0x80, 0x80, 0x80, 0x80, 0x80, 0x01}},
		{1<<63 - 1, []byte{0xff, 0xff, 0xff, 0xff, 0xff, 0xff, 0xff, 0xff, 0x7f}},
		{1 << 63, []byte{0x80, 0x80, 0x80, 0x80, 0x80, 0x80, 0x80, 0x80, 0x80, 0x01}},
		{top, []byte{0xff, 0xff, 0xff, 0xff, 0xff, 0xff, 0xff, 0xff, 0xff, 0x01}},
	}
}

// misshapen are bytes that begin with no number's.
func misshapen() [][]byte {
	nines := func(c byte, tail ...byte) []byte {
		return append(bytes.Repeat([]byte{c}, 9), tail...)
	}
	l := [][]byte{
		// More bytes than it takes.
		{0x80, 0x00},
		{0x81, 0x00},
		{0xff, 0x00},
		{0xac, 0x82, 0x00},
		{0x80, 0x80, 0x00},
		{0x81, 0x80, 0x00},
		nines(0xff, 0x00),
		nines(0x80, 0x00),
		nines(0x80, 0x80, 0x00),
		nines(0x80, 0x81, 0x00),
		nines(0xff, 0x81, 0x00),
		append(bytes.Repeat([]byte{0x80}, 63), 0x00),
		append(bytes.Repeat([]byte{0x80}, 1000), 0x00),
		// Not below 2^64: 2^64 itself, what is 0, or small, without its
		// high bits, and more.
		nines(0x80, 0x02),
		nines(0x81, 0x02),
		nines(0xff, 0x02),
		nines(0xff, 0x03),
		nines(0x80, 0x40),
		nines(0xff, 0x7f),
		nines(0x80, 0x80, 0x01),
		nines(0xff, 0x81, 0x01),
		nines(0xff, 0xff, 0x7f),
		append(bytes.Repeat([]byte{0x80}, 18), 0x01),
		append(bytes.Repeat([]byte{0x80}, 64), 0x01),
		append(bytes.Repeat([]byte{0xff}, 1000), 0x01),
		// Without an end.
		bytes.Repeat([]byte{0x80}, 1<<16),
	}
	for _, c := range []byte{0x80, 0x81, 0xac, 0xff} {
		for many := 1; many <= 21; many++ {
			l = append(l, bytes.Repeat([]byte{c}, many))
		}
	}
	return l
}

// atFault holds an error against ErrForm, as a Spot, at this place.
func atFault(t *testing.T, call string, err error, at int) {
	t.Helper()
	spot, ok := err.(*api.Spot)
	if !ok || spot == nil {
		t.Fatalf("%s: error %v (%T), want a Spot", call, err, err)
	}
	if spot.At != at || spot.Err != api.ErrForm || !errors.Is(err, api.ErrForm) {
		t.Errorf("%s: error %v, want %v at %d", call, err, api.ErrForm, at)
	}
}

// getsFault asks Get for what ends at a fault: beside it nothing is told (R3).
func getsFault(t *testing.T, b []byte, many, at int) {
	t.Helper()
	l, size, err := Get(b, many)
	atFault(t, "Get", err, at)
	if l != nil || size != 0 {
		t.Errorf("Get(% x, %d): %v and %d beside an error", b, many, l, size)
	}
}

// allFaults asks All for what ends at a fault: beside it nothing is told (R3).
func allFaults(t *testing.T, b []byte, at int) {
	t.Helper()
	l, err := All(b)
	atFault(t, "All", err, at)
	if l != nil {
		t.Errorf("All(% x): %v beside an error", b, l)
	}
}

// gets asks Get for what is there.
func gets(t *testing.T, b []byte, many int, want []uint64, wantSize int) {
	t.Helper()
	l, size, err := Get(b, many)
	if err != nil || size != wantSize || !slices.Equal(l, want) {
		t.Errorf("Get(% x, %d): %v, %d, %v; want %v, %d", b, many, l, size, err, want, wantSize)
	}
}

// all asks All for what is there.
func all(t *testing.T, b []byte, want []uint64) {
	t.Helper()
	l, err := All(b)
	if err != nil || !slices.Equal(l, want) {
		t.Errorf("All(% x): %v, %v; want %v", b, l, err, want)
	}
}

func TestEachNumbersBytes(t *testing.T) { // P2.1
	for _, c := range written() {
		if b := Put([]uint64{c.n}); !bytes.Equal(b, c.b) {
			t.Errorf("Put(%d): % x, want % x", c.n, b, c.b)
		}
		gets(t, c.b, 1, []uint64{c.n}, len(c.b))
		all(t, c.b, []uint64{c.n})
	}
}

func TestNumbersOneBehindTheOther(t *testing.T) { // P2.1
	var l []uint64
	var b []byte
	ends := []int{0}
	for _, c := range written() {
		l = append(l, c.n)
		b = append(b, c.b...)
		ends = append(ends, len(b))
	}
	for many := range len(l) + 1 {
		if p := Put(l[:many]); !bytes.Equal(p, b[:ends[many]]) {
			t.Errorf("Put(%v): % x, want % x", l[:many], p, b[:ends[many]])
		}
		all(t, b[:ends[many]], l[:many])
		// What stands behind so many is left where it is.
		gets(t, b, many, l[:many], ends[many])
	}
	two := []byte{0x00, 0x00, 0xac, 0x02, 0x00}
	if p := Put([]uint64{0, 0, 300, 0}); !bytes.Equal(p, two) {
		t.Errorf("Put(0, 0, 300, 0): % x, want % x", p, two)
	}
	all(t, two, []uint64{0, 0, 300, 0})
}

func TestNoBytesAndNoNumbers(t *testing.T) { // P2.1
	for _, l := range [][]uint64{nil, {}} {
		if b := Put(l); len(b) != 0 {
			t.Errorf("Put of none: % x", b)
		}
	}
	for _, b := range [][]byte{nil, {}} {
		all(t, b, nil)
		gets(t, b, 0, nil, 0)
		gets(t, b, -1, nil, 0)
		getsFault(t, b, 1, 0)
		getsFault(t, b, 2, 0)
		getsFault(t, b, math.MaxInt, 0)
	}
}

func TestGetOfNone(t *testing.T) { // P2.1
	for _, b := range append(misshapen(), []byte{0x05}, []byte{0xac, 0x02}) {
		for _, many := range []int{0, -1, -2, -1 << 31, math.MinInt} {
			gets(t, b, many, nil, 0)
		}
	}
}

func TestGetOfMoreThanThereAre(t *testing.T) { // P2.1, P1
	b := []byte{0x05, 0xac, 0x02, 0x00}
	gets(t, b, 3, []uint64{5, 300, 0}, 4)
	for _, many := range []int{4, 5, 1 << 31, math.MaxInt} {
		getsFault(t, b, many, 4)
	}
}

// ahead are lists of numbers that stand ahead of a fault.
func ahead() [][]uint64 {
	return [][]uint64{nil, {0}, {127, 128}, {300}, {0, top, 1 << 63}, {1, 2, 3, 4, 5}}
}

func TestBytesThatNoNumberIsWrittenAs(t *testing.T) { // P2.1, R3
	for _, bad := range misshapen() {
		for _, l := range ahead() {
			good := Put(l)
			b := slices.Concat(good, bad)
			allFaults(t, b, len(good))
			gets(t, b, len(l), l, len(good))
			getsFault(t, b, len(l)+1, len(good))
			getsFault(t, b, math.MaxInt, len(good))
		}
	}
}

func TestTheFirstOfSeveralFaults(t *testing.T) { // P2.1, R1
	b := []byte{0x01, 0x80, 0x00, 0x07, 0x80, 0x00, 0x80}
	allFaults(t, b, 1)
	getsFault(t, b, 2, 1)
	getsFault(t, b, 5, 1)
	gets(t, b[3:], 1, []uint64{7}, 1)
	allFaults(t, b[3:], 1)
}

func TestBytesThatEndWithinANumber(t *testing.T) { // P2.1, R3
	for _, c := range written() {
		for _, l := range ahead() {
			good := Put(l)
			for size := 1; size < len(c.b); size++ {
				b := slices.Concat(good, c.b[:size])
				allFaults(t, b, len(good))
				getsFault(t, b, len(l)+1, len(good))
				gets(t, b, len(l), l, len(good))
			}
		}
	}
}

func TestBytesBehindTheSliceAreNotRead(t *testing.T) { // P2.1
	behind := []byte{0xac, 0x02, 0x05}
	allFaults(t, behind[:1], 0)
	getsFault(t, behind[:1], 1, 0)
	getsFault(t, behind[:2], 2, 2)
	all(t, behind[:2], []uint64{300})
}

// exact reads the first number of b by numbers without bounds: false, if the
// chapter's words make it of no such bytes.
func exact(b []byte) (uint64, int, bool) {
	end := slices.IndexFunc(b, func(c byte) bool { return c < 0x80 })
	if end < 0 {
		return 0, 0, false
	}
	n := new(big.Int)
	for i := end; i >= 0; i-- {
		n.Lsh(n, 7)
		n.Or(n, big.NewInt(int64(b[i]&0x7f)))
	}
	least := max(1, (n.BitLen()+6)/7)
	if !n.IsUint64() || end+1 != least {
		return 0, 0, false
	}
	return n.Uint64(), end + 1, true
}

// heldAgainstExact holds Get, All and Put of bytes against exact.
func heldAgainstExact(t *testing.T, b []byte) {
	t.Helper()
	var l []uint64
	at := 0
	for at < len(b) {
		n, size, ok := exact(b[at:])
		if !ok {
			break
		}
		l = append(l, n)
		at += size
	}
	gets(t, b, len(l), l, at)
	getsFault(t, b, len(l)+1, at)
	if at < len(b) {
		allFaults(t, b, at)
		return
	}
	all(t, b, l)
	if p := Put(l); !bytes.Equal(p, b) {
		t.Errorf("what is got of % x is put as % x", b, p)
	}
}

func TestAllShortBytes(t *testing.T) { // P2.1, P2.3
	for x := range 1 << 8 {
		heldAgainstExact(t, []byte{byte(x)})
	}
	for x := range 1 << 16 {
		heldAgainstExact(t, []byte{byte(x), byte(x >> 8)})
	}
	some := []byte{0x00, 0x01, 0x02, 0x7f, 0x80, 0x81, 0xff}
	for _, x := range some {
		for _, y := range some {
			for _, z := range some {
				for _, last := range some {
					heldAgainstExact(t, []byte{x, y, z, last})
				}
			}
		}
	}
}

func TestLongBytes(t *testing.T) { // P2.1, P2.3
	for size := 7; size <= 12; size++ {
		for _, low := range []byte{0x80, 0x81, 0xff} {
			for x := range 1 << 16 {
				b := append(bytes.Repeat([]byte{low}, size-2), byte(x), byte(x>>8))
				heldAgainstExact(t, b)
			}
		}
	}
}

// drawn are numbers of all lengths in a fixed order that looks like none.
func drawn(many int, seed uint64) []uint64 {
	l := make([]uint64, many)
	for i := range l {
		seed = seed*6364136223846793005 + 1442695040888963407
		l[i] = (seed ^ seed>>29) >> (seed >> 58)
	}
	return l
}

func TestWhatWasPutIsGotAsItWas(t *testing.T) { // P2.3
	for many := range 200 {
		l := drawn(many, uint64(many))
		b := Put(l)
		all(t, b, l)
		gets(t, b, many, l, len(b))
		gets(t, append(b, 0x80, 0x00), many, l, len(b))
	}
	for _, c := range written() {
		for k := uint64(0); k < 64; k++ {
			n := c.n ^ 1<<k
			b := Put([]uint64{n, c.n})
			all(t, b, []uint64{n, c.n})
			heldAgainstExact(t, b)
		}
	}
}

func TestWhatIsGotIsPutAsThoseBytes(t *testing.T) { // P2.3
	for many := range 200 {
		b := Put(drawn(many, 7))
		b = append(b, 0xac, 0x02, 0x80)
		for n := range many + 2 {
			l, size, err := Get(b, n)
			if err != nil || !bytes.Equal(Put(l), b[:size]) {
				t.Fatalf("%d numbers: %v", n, err)
			}
		}
	}
}

func TestMany(t *testing.T) { // P2.1, P1
	l := drawn(1<<18, 3)
	b := Put(l)
	all(t, b, l)
	gets(t, b, len(l), l, len(b))
	getsFault(t, b, math.MaxInt, len(b))
	allFaults(t, append(b, 0xff), len(b))
	allFaults(t, bytes.Repeat([]byte{0xff}, 1<<22), 0)
}

func TestWhatIsHandedInStays(t *testing.T) { // P2.2
	for _, whole := range [][]byte{
		{0xac, 0x02, 0x00, 0x7f, 0xff, 0xff},
		{0x80, 0x00, 0x01, 0x02, 0x03, 0x04},
		{0x01, 0x02, 0x03, 0x04, 0x05, 0x06},
	} {
		was := slices.Clone(whole)
		for size := range len(whole) + 1 {
			for many := range 8 {
				Get(whole[:size], many)
			}
			All(whole[:size])
		}
		if !bytes.Equal(whole, was) {
			t.Errorf("the bytes % x became % x", was, whole)
		}
	}
	l := []uint64{0, 300, top, 1 << 63, 127, 128}
	was := slices.Clone(l)
	for many := range len(l) + 1 {
		Put(l[:many])
	}
	if !slices.Equal(l, was) {
		t.Errorf("the numbers %v became %v", was, l)
	}
}

func TestWhatIsToldIsNewMemory(t *testing.T) { // P2.2
	l := []uint64{5, 300, top}
	b1, b2 := Put(l), Put(l)
	want := slices.Clone(b1)
	clear(b1[:cap(b1)])
	if !bytes.Equal(b2, want) || !bytes.Equal(Put(l), want) {
		t.Error("two answers of Put share memory")
	}
	clear(l)
	if !bytes.Equal(b2, want) {
		t.Error("an answer of Put shares memory with its list")
	}
	numbers := []uint64{5, 300, top}
	g1, _, _ := Get(b2, 3)
	g2, _, _ := Get(b2, 3)
	a1, _ := All(b2)
	a2, _ := All(b2)
	clear(g1[:cap(g1)])
	clear(a1[:cap(a1)])
	clear(b2)
	if !slices.Equal(g2, numbers) || !slices.Equal(a2, numbers) {
		t.Error("an answer of Get or All shares memory with its bytes, or with another answer")
	}
	// Each fault is told on its own, too: changing one changes no other.
	_, _, err1 := Get([]byte{0x80}, 1)
	_, _, err2 := Get([]byte{0x80}, 1)
	_, err3 := All([]byte{0x80})
	err1.(*api.Spot).At = 9
	atFault(t, "Get", err2, 0)
	atFault(t, "All", err3, 0)
}

func TestTheSameCallIsToldTheSame(t *testing.T) { // R4
	for _, l := range ahead() {
		if !bytes.Equal(Put(l), Put(l)) {
			t.Errorf("Put(%v) is told otherwise the second time", l)
		}
	}
	for _, bad := range misshapen() {
		for range 2 {
			allFaults(t, bad, 0)
			getsFault(t, bad, 1, 0)
		}
	}
}
