// Package byteset works with sets of bytes. It is layer 1: see shared/doc/01-byteset.md.
package byteset

import (
	"iter"
	"math/bits"

	"vetch/api"
)

// Has reports whether c is a member of s.
func Has(s api.Set, c byte) bool { return s[c/64]>>(c%64)&1 == 1 }

// Of returns the set with the given members. A byte may be given more than once.
func Of(l ...byte) api.Set {
	var s api.Set
	for _, c := range l {
		s[c/64] |= 1 << (c % 64)
	}
	return s
}

// Range returns the set of the bytes from lo to hi, both included; it is empty if lo is greater than hi.
func Range(lo, hi byte) api.Set {
	var s api.Set
	// An int goes beyond 255, where a byte would begin at 0 again.
	for c := int(lo); c <= int(hi); c++ {
		s[c/64] |= 1 << (c % 64)
	}
	return s
}

// Full returns the set of all bytes.
func Full() api.Set { return Not(api.Set{}) }

// Union returns the set of the bytes that are members of a or of b.
func Union(a, b api.Set) api.Set {
	for i, w := range b {
		a[i] |= w
	}
	return a
}

// Meet returns the set of the bytes that are members of both a and b.
func Meet(a, b api.Set) api.Set {
	for i, w := range b {
		a[i] &= w
	}
	return a
}

// Not returns the set of the bytes that are not members of a.
func Not(a api.Set) api.Set {
	for i, w := range a {
		a[i] = ^w
	}
	return a
}

// Count returns the number of members of s.
func Count(s api.Set) int {
	n := 0
	for _, w := range s {
		n += bits.OnesCount64(w)
	}
	return n
}

// Bytes returns the members of s in ascending order.
func Bytes(s api.Set) []byte {
	var l []byte
	for c := range members(s) {
		l = append(l, c)
	}
	return l
}

// Runs returns the first and the last byte of each run of s, in ascending order.
func Runs(s api.Set) [][2]byte {
	var l [][2]byte
	for c := range members(s) {
		// A member after another one is at least 1, so c-1 does not wrap around.
		if last := len(l) - 1; last >= 0 && l[last][1] == c-1 {
			l[last][1] = c
		} else {
			l = append(l, [2]byte{c, c})
		}
	}
	return l
}

// members yields the members of s in ascending order.
func members(s api.Set) iter.Seq[byte] {
	return func(yield func(byte) bool) {
		// All nodes but classes have the empty set, so it is worth a shortcut.
		if s == (api.Set{}) {
			return
		}
		for c := range 256 {
			if Has(s, byte(c)) && !yield(byte(c)) {
				return
			}
		}
	}
}
