package codec

import (
	"slices"

	"dunnage/api"
)

func nodeNumbers(n api.Node) []uint64 {
	return slices.Concat(numbers(n.Id, n.Zone), n.Cap[:], n.Held[:])
}

func loadNumbers(l api.Load) []uint64 {
	return numbers(l.Id, truth(l.Apart), l.Skew, l.Min, l.Max)
}

func podNumbers(p api.Pod) []uint64 {
	return slices.Concat(numbers(p.Id, p.Load, p.Prio), p.Req[:], numbers(p.Node))
}

func wantNumbers(w api.Want) []uint64 {
	return slices.Concat(numbers(w.Pod), w.Req[:], numbers(truth(w.Stay)))
}

func moveNumbers(m api.Move) []uint64 {
	return numbers(m.Kind, m.Pod, m.Node, m.Over)
}

// each is the numbers of each of a list, one behind the other.
func each[T any](l []T, numbersOf func(T) []uint64) []uint64 {
	var all []uint64
	for _, one := range l {
		all = append(all, numbersOf(one)...)
	}
	return all
}

// numbers are these as they are written. None of them is below 0: whoever
// calls has looked.
func numbers(l ...int) []uint64 {
	var all []uint64
	for _, n := range l {
		all = append(all, uint64(n))
	}
	return all
}

func truth(t bool) int {
	if t {
		return 1
	}
	return 0
}

// writable tells whether all are from 0 to MaxId: no others are read again.
func writable(l ...int) bool {
	for _, n := range l {
		if n < 0 || n > api.MaxId {
			return false
		}
	}
	return true
}
