// Package ident is layer 1, identifiers on a ring: see shared/doc/01-ident.md.
package ident

import (
	"cmp"
	"math/bits"
	"strings"

	"posthouse/api"
)

const (
	idBytes = 32
	idBits  = 8 * idBytes
	digits  = "0123456789abcdef"
)

// Compare is how a stands to b: -1 below it, 0 the same, 1 above it.
func Compare(a, b api.Id) int {
	for i := range a {
		if a[i] != b[i] {
			return cmp.Compare(a[i], b[i])
		}
	}
	return 0
}

// Far is the way from a to b, round the ring.
func Far(a, b api.Id) api.Id {
	var way api.Id
	borrow := 0
	for i := idBytes - 1; i >= 0; i-- {
		rest := int(b[i]) - int(a[i]) - borrow
		borrow = 0
		if rest < 0 {
			borrow = 1
		}
		way[i] = byte(rest)
	}
	return way
}

// Step is the identifier that is 2^k behind a, round the ring.
func Step(a api.Id, k int) (api.Id, api.Errno) {
	if k < 0 || k >= idBits {
		return api.Id{}, api.ErrArg
	}
	carry := 1 << (k % 8)
	for i := idBytes - 1 - k/8; i >= 0 && carry > 0; i-- {
		sum := int(a[i]) + carry
		a[i] = byte(sum)
		carry = sum >> 8
	}
	return a, api.OK
}

// In tells whether x is on the way from a to b, which is of it.
func In(x, a, b api.Id) bool {
	// From an identifier to itself the way is the whole ring, though Far of it is 0.
	if a == b {
		return true
	}
	return x != a && Compare(Far(a, x), Far(a, b)) <= 0
}

// Common is how many bits a and b have in common, from the highest on.
func Common(a, b api.Id) int {
	for i := range a {
		if a[i] != b[i] {
			return 8*i + bits.LeadingZeros8(a[i]^b[i])
		}
	}
	return idBits
}

// Text is a's 64 digits, the highest first.
func Text(a api.Id) string {
	var text [2 * idBytes]byte
	for i, b := range a {
		text[2*i] = digits[b>>4]
		text[2*i+1] = digits[b&15]
	}
	return string(text[:])
}

// Parse reads the identifier whose Text is s.
func Parse(s string) (api.Id, api.Errno) {
	if len(s) != 2*idBytes {
		return api.Id{}, api.ErrHex
	}
	var a api.Id
	for i := range a {
		high := strings.IndexByte(digits, s[2*i])
		low := strings.IndexByte(digits, s[2*i+1])
		if high < 0 || low < 0 {
			return api.Id{}, api.ErrHex
		}
		a[i] = byte(high<<4 | low)
	}
	return a, api.OK
}
