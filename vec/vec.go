// Package vec is layer 1: amounts of four things.
package vec

import (
	"math/bits"

	"dunnage/api"
)

// Add is the sum: P1.1.
func Add(a, b api.Vec) (api.Vec, error) {
	var sum api.Vec
	for i := range sum {
		s, carry := bits.Add64(a[i], b[i], 0)
		if carry != 0 {
			return api.Vec{}, api.ErrOver
		}
		sum[i] = s
	}
	return sum, nil
}

// Sub is the difference: P1.1.
func Sub(a, b api.Vec) (api.Vec, error) {
	var difference api.Vec
	for i := range difference {
		d, borrow := bits.Sub64(a[i], b[i], 0)
		if borrow != 0 {
			return api.Vec{}, api.ErrOver
		}
		difference[i] = d
	}
	return difference, nil
}

// Sum is the sum of all: P1.1.
//
// No amount is below 0, so a sum that goes over on the way never comes back:
// stopping there tells the same as adding all, in whatever order.
func Sum(l []api.Vec) (api.Vec, error) {
	var total api.Vec
	for _, v := range l {
		next, err := Add(total, v)
		if err != nil {
			return api.Vec{}, err
		}
		total = next
	}
	return total, nil
}

// Fits tells whether one fits in another one: P1.1.
func Fits(a, b api.Vec) bool {
	for i := range a {
		if a[i] > b[i] {
			return false
		}
	}
	return true
}

// Max is of each the greater one: P1.1.
func Max(a, b api.Vec) api.Vec {
	var greater api.Vec
	for i := range greater {
		greater[i] = max(a[i], b[i])
	}
	return greater
}

// Times is the product: P1.1.
func Times(a api.Vec, n uint64) (api.Vec, error) {
	var product api.Vec
	for i := range product {
		high, low := bits.Mul64(a[i], n)
		if high != 0 {
			return api.Vec{}, api.ErrOver
		}
		product[i] = low
	}
	return product, nil
}
