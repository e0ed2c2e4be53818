// Package tick is layer 1: see shared/doc/01-tick.md.
package tick

import "usufruct/api"

// Good tells whether that is a tick.
func Good(n int) bool {
	return n >= 0 && n <= api.MaxTick
}

// Of is the nearest tick.
func Of(n int) int {
	return min(max(n, 0), api.MaxTick)
}

// Add is a sum.
func Add(a, b int) int {
	return Of(Of(a) + Of(b))
}

// Sub is a difference.
func Sub(a, b int) int {
	return Of(Of(a) - Of(b))
}

// Times is a product.
func Times(a, n int) int {
	a, n = Of(a), Of(n)
	// Two ticks' product may have 81 bits: whether it is above MaxTick is told by a quotient, ahead of it.
	if a > 0 && n > api.MaxTick/a {
		return api.MaxTick
	}
	return a * n
}

// Pow is a power.
func Pow(base, k int) int {
	base, k = Of(base), Of(k)
	power := 1
products:
	for range k {
		switch next := Times(power, base); next {
		case power:
			// What one product leaves as it is, all further ones do: without this, k could be 2^40 rounds.
			break products
		default:
			power = next
		}
	}
	return power
}

// Due tells whether a tick has come.
func Due(now, at int) bool {
	return Of(at) <= Of(now)
}
