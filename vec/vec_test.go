package vec

import (
	"math/big"
	"slices"
	"testing"

	"dunnage/api"
)

const top = 1<<64 - 1

// told holds an answer against the one that is due; beside ErrOver that is
// the zero amount (R3), and the error is the Code itself, not one around it.
func told(t *testing.T, call string, got api.Vec, err error, want api.Vec, wantErr error) {
	t.Helper()
	if err != wantErr {
		t.Errorf("%s: error %v, want %v", call, err, wantErr)
	}
	if got != want {
		t.Errorf("%s: %v, want %v", call, got, want)
	}
}

// at is an amount with v at place i, and 1 at the other three.
func at(i int, v uint64) api.Vec {
	r := api.Vec{1, 1, 1, 1}
	r[i] = v
	return r
}

// edges are numbers at which sums, differences and products turn over.
func edges() []uint64 {
	return []uint64{
		0, 1, 2, 3, 5, 1000,
		1<<32 - 1, 1 << 32, 1<<32 + 1,
		1<<63 - 1, 1 << 63, 1<<63 + 1,
		top / 3, top/3 + 1, top - 2, top - 1, top,
	}
}

// amounts are some in which each edge stands at each place, beside others.
func amounts() []api.Vec {
	l := []api.Vec{{}, {top, top, top, top}, {1, 2, 3, 4}, {4, 3, 2, 1}}
	e := edges()
	for i := range e {
		n := len(e)
		l = append(l, api.Vec{e[i], e[(i+3)%n], e[(i+7)%n], e[(i+11)%n]})
		for k := range 4 {
			l = append(l, at(k, e[i]))
		}
	}
	return l
}

// exact works a call out in numbers without bounds.
func exact(a, b api.Vec, op func(z, x, y *big.Int) *big.Int) (api.Vec, error) {
	var r api.Vec
	for i := range r {
		z := op(new(big.Int), new(big.Int).SetUint64(a[i]), new(big.Int).SetUint64(b[i]))
		if !z.IsUint64() {
			return api.Vec{}, api.ErrOver
		}
		r[i] = z.Uint64()
	}
	return r, nil
}

func TestAdd(t *testing.T) { // P1.1
	s, err := Add(api.Vec{1, 2, 3, 4}, api.Vec{1, 1, 1, 1})
	told(t, "Add ordinary", s, err, api.Vec{2, 3, 4, 5}, nil)
	s, err = Add(api.Vec{}, api.Vec{})
	told(t, "Add nothing", s, err, api.Vec{}, nil)
	for i := range 4 {
		s, err = Add(at(i, top-1), at(i, 1))
		want := api.Vec{2, 2, 2, 2}
		want[i] = top
		told(t, "Add just within", s, err, want, nil)
		s, err = Add(at(i, top), at(i, 1))
		told(t, "Add just beyond", s, err, api.Vec{}, api.ErrOver)
		s, err = Add(at(i, 1), at(i, top))
		told(t, "Add just beyond, turned", s, err, api.Vec{}, api.ErrOver)
		s, err = Add(at(i, top), at(i, top))
		told(t, "Add far beyond", s, err, api.Vec{}, api.ErrOver)
	}
}

func TestSub(t *testing.T) { // P1.1
	d, err := Sub(api.Vec{5, 5, 5, 5}, api.Vec{1, 2, 3, 4})
	told(t, "Sub ordinary", d, err, api.Vec{4, 3, 2, 1}, nil)
	d, err = Sub(api.Vec{top, top, top, top}, api.Vec{top, 0, top - 1, 1})
	told(t, "Sub from the greatest", d, err, api.Vec{0, top, 1, top - 1}, nil)
	for i := range 4 {
		d, err = Sub(at(i, 7), at(i, 7))
		told(t, "Sub just within", d, err, api.Vec{}, nil)
		d, err = Sub(at(i, 6), at(i, 7))
		told(t, "Sub just beyond", d, err, api.Vec{}, api.ErrOver)
		d, err = Sub(at(i, 0), at(i, top))
		told(t, "Sub far beyond", d, err, api.Vec{}, api.ErrOver)
	}
	// The three others leave something, and nothing of it is told.
	d, err = Sub(api.Vec{9, 9, 9, 0}, api.Vec{1, 1, 1, 1})
	told(t, "Sub, the last one beyond", d, err, api.Vec{}, api.ErrOver)
}

func TestTimes(t *testing.T) { // P1.1
	p, err := Times(api.Vec{3, 1, 0, 10}, 5)
	told(t, "Times ordinary", p, err, api.Vec{15, 5, 0, 50}, nil)
	p, err = Times(api.Vec{top, top, top, top}, 0)
	told(t, "Times 0", p, err, api.Vec{}, nil)
	p, err = Times(api.Vec{top, 0, 1, 2}, 1)
	told(t, "Times 1", p, err, api.Vec{top, 0, 1, 2}, nil)
	p, err = Times(api.Vec{0, 1, 0, 1}, top)
	told(t, "Times the greatest", p, err, api.Vec{0, top, 0, top}, nil)
	p, err = Times(api.Vec{}, top)
	told(t, "Times of nothing", p, err, api.Vec{}, nil)
	for i := range 4 {
		want := api.Vec{3, 3, 3, 3}
		want[i] = top
		p, err = Times(at(i, top/3), 3)
		told(t, "Times just within", p, err, want, nil)
		p, err = Times(at(i, top/3+1), 3)
		told(t, "Times just beyond", p, err, api.Vec{}, api.ErrOver)
		// 2^64 itself: its low 64 bits are 0, as those of a small product.
		p, err = Times(at(i, 1<<32), 1<<32)
		told(t, "Times 2^64", p, err, api.Vec{}, api.ErrOver)
		p, err = Times(at(i, top), top)
		told(t, "Times far beyond", p, err, api.Vec{}, api.ErrOver)
	}
}

func TestSum(t *testing.T) { // P1.1
	s, err := Sum(nil)
	told(t, "Sum of nil", s, err, api.Vec{}, nil)
	s, err = Sum([]api.Vec{})
	told(t, "Sum of none", s, err, api.Vec{}, nil)
	s, err = Sum([]api.Vec{{1, 2, 3, top}})
	told(t, "Sum of one", s, err, api.Vec{1, 2, 3, top}, nil)
	s, err = Sum([]api.Vec{{1}, {2}, {0, 3}, {0, 0, 4, 5}})
	told(t, "Sum ordinary", s, err, api.Vec{3, 3, 4, 5}, nil)
	for i := range 4 {
		var half, less, one api.Vec
		half[i], less[i], one[i] = 1<<63, 1<<63-1, 1
		want := api.Vec{}
		want[i] = top
		s, err = Sum([]api.Vec{half, {}, less})
		told(t, "Sum just within", s, err, want, nil)
		s, err = Sum([]api.Vec{half, less, one})
		told(t, "Sum just beyond at the last one", s, err, api.Vec{}, api.ErrOver)
		s, err = Sum([]api.Vec{half, half, {}, one})
		told(t, "Sum beyond on the way", s, err, api.Vec{}, api.ErrOver)
		// All bits turned over twice: the low 64 bits are those of a small sum.
		s, err = Sum([]api.Vec{half, half, half, half, one})
		told(t, "Sum far beyond", s, err, api.Vec{}, api.ErrOver)
	}
}

func TestSumOfMany(t *testing.T) { // P1.1
	l := slices.Repeat([]api.Vec{{1, 0, 1 << 40, 3}}, 10000)
	s, err := Sum(l)
	told(t, "Sum of many", s, err, api.Vec{10000, 0, 10000 << 40, 30000}, nil)
}

func TestSumLeavesItsList(t *testing.T) { // R2
	l := []api.Vec{{1, 2, 3, 4}, {top, 0, 0, 0}, {5, 6, 7, 8}}
	was := slices.Clone(l)
	if _, err := Sum(l); err != api.ErrOver {
		t.Errorf("error %v, want %v", err, api.ErrOver)
	}
	if _, err := Sum(l[:1]); err != nil {
		t.Errorf("error %v, want none", err)
	}
	if !slices.Equal(l, was) {
		t.Errorf("the list became %v", l)
	}
}

func TestFits(t *testing.T) { // P1.1
	if !Fits(api.Vec{}, api.Vec{}) || !Fits(api.Vec{1, 2, 3, 4}, api.Vec{1, 3, 3, 9}) {
		t.Error("what is nowhere above doesn't fit")
	}
	if !Fits(api.Vec{}, api.Vec{top, top, top, top}) || !Fits(api.Vec{top, top, top, top}, api.Vec{top, top, top, top}) {
		t.Error("the least, or the greatest, doesn't fit in the greatest")
	}
	for i := range 4 {
		if !Fits(at(i, 7), at(i, 7)) || Fits(at(i, 8), at(i, 7)) {
			t.Errorf("place %d: equal, or one above", i)
		}
		if Fits(at(i, top), at(i, 1<<63)) || !Fits(at(i, 1<<63-1), at(i, 1<<63)) {
			t.Errorf("place %d: numbers of 64 bits are taken for signed ones", i)
		}
		// Far less of the other three makes no room for the fourth.
		var one api.Vec
		one[i] = 1
		rest := api.Vec{top, top, top, top}
		rest[i] = 0
		if Fits(one, rest) {
			t.Errorf("place %d: 1 fits in 0", i)
		}
	}
}

func TestMax(t *testing.T) { // P1.1
	if m := Max(api.Vec{1, 5, 0, top}, api.Vec{2, 3, 0, 1}); m != (api.Vec{2, 5, 0, top}) {
		t.Error(m)
	}
	for i := range 4 {
		want := at(i, top)
		if m := Max(at(i, top), at(i, 1<<63-1)); m != want {
			t.Errorf("place %d: %v, want %v", i, m, want)
		}
		if m := Max(at(i, 0), at(i, top)); m != want {
			t.Errorf("place %d: %v, want %v", i, m, want)
		}
	}
}

func TestAgainstExactNumbers(t *testing.T) { // P1.1
	l := amounts()
	for _, a := range l {
		for _, b := range l {
			want, wantErr := exact(a, b, (*big.Int).Add)
			got, err := Add(a, b)
			told(t, "Add", got, err, want, wantErr)
			got, err = Sum([]api.Vec{a, b})
			told(t, "Sum of two", got, err, want, wantErr)
			want, wantErr = exact(a, b, (*big.Int).Sub)
			got, err = Sub(a, b)
			told(t, "Sub", got, err, want, wantErr)
			if Fits(b, a) != (wantErr == nil) {
				t.Errorf("Fits(%v, %v): %v", b, a, Fits(b, a))
			}
		}
		for _, n := range edges() {
			want, wantErr := exact(a, api.Vec{n, n, n, n}, (*big.Int).Mul)
			got, err := Times(a, n)
			told(t, "Times", got, err, want, wantErr)
		}
	}
}

func TestWhatWasAddedIsTakenAwayAgain(t *testing.T) { // P1.2
	l := amounts()
	both := 0
	for _, a := range l {
		for _, b := range l {
			s, err := Add(a, b)
			if err != nil {
				continue
			}
			both++
			d, err := Sub(s, b)
			told(t, "Sub of what was added", d, err, a, nil)
			d, err = Sub(s, a)
			told(t, "Sub of what was added to", d, err, b, nil)
		}
	}
	if both == 0 {
		t.Error("nothing was added")
	}
}

// orders calls f with l in each of its orders.
func orders(l []api.Vec, done int, f func([]api.Vec)) {
	if done == len(l) {
		f(l)
		return
	}
	for i := done; i < len(l); i++ {
		l[done], l[i] = l[i], l[done]
		orders(l, done+1, f)
		l[done], l[i] = l[i], l[done]
	}
}

func TestSumsAreTheSameInAnyOrder(t *testing.T) { // P1.2
	lists := []struct {
		l   []api.Vec
		sum api.Vec
		err error
	}{
		{[]api.Vec{{1, 2, 3, 4}, {5, 6, 7, 8}, {9, 0, 9, 0}, {}, {1, 1, 1, 1}}, api.Vec{16, 9, 20, 13}, nil},
		{[]api.Vec{{1 << 63, 1, 0, 0}, {1<<63 - 2, 2, 0, top}, {1, 3, 0, 0}, {0, 4, 0, 0}}, api.Vec{top, 10, 0, top}, nil},
		{[]api.Vec{{1 << 63}, {1<<63 - 1}, {1}, {0, 7}}, api.Vec{}, api.ErrOver},
		{[]api.Vec{{0, 0, 0, top}, {1, 1, 1, 0}, {0, 0, 0, 1}, {top - 1}, {}}, api.Vec{}, api.ErrOver},
		{[]api.Vec{{top, 0, 0, 0}, {0, top, 0, 0}, {0, 0, top, 0}, {0, 0, 0, top}}, api.Vec{top, top, top, top}, nil},
	}
	for _, c := range lists {
		orders(c.l, 0, func(l []api.Vec) {
			s, err := Sum(l)
			told(t, "Sum in an order", s, err, c.sum, c.err)
		})
	}
}

func TestWhatFitsInOneOfTwoFitsInTheirMax(t *testing.T) { // P1.2
	l := amounts()
	for _, a := range l {
		for _, b := range l {
			m := Max(a, b)
			if m != Max(b, a) || !Fits(a, m) || !Fits(b, m) {
				t.Fatalf("Max(%v, %v): %v", a, b, m)
			}
			for _, c := range l {
				if (Fits(c, a) || Fits(c, b)) && !Fits(c, m) {
					t.Fatalf("%v fits in %v or %v, not in %v", c, a, b, m)
				}
			}
		}
	}
}

func TestTheSameCallIsToldTheSame(t *testing.T) { // R4
	l := amounts()
	for _, a := range l {
		s1, err1 := Sum([]api.Vec{a, {1}, a})
		s2, err2 := Sum([]api.Vec{a, {1}, a})
		told(t, "Sum once more", s2, err2, s1, err1)
		p1, err1 := Times(a, 2)
		p2, err2 := Times(a, 2)
		told(t, "Times once more", p2, err2, p1, err1)
	}
}
