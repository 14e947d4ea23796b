// Package varint is layer 1: see shared/doc/01-varint.md.
package varint

import (
	"iter"

	"skylight/api"
)

const (
	digitBits = 7
	base      = 1 << digitBits
	// 64 bits are nine digits of seven bits and one bit more: a tenth digit there may be, but no greater one than 1.
	maxDigits = 10
	maxTenth  = 1
)

// Put is a number as bytes: its digits by 128, the lowest first, each but the last one with 128 more.
func Put(n uint64) []byte {
	b := make([]byte, 0, maxDigits)
	for digit, last := range digits(n) {
		if !last {
			digit += base
		}
		b = append(b, digit)
	}
	return b
}

// Take is the number with which bytes begin, and how many these are.
func Take(b []byte) (uint64, int, api.Errno) {
	var n uint64
	for i := range min(len(b), maxDigits) {
		n |= uint64(b[i]%base) << (digitBits * uint(i))
		if b[i] >= base {
			continue
		}
		if !mayEnd(b[i], i) {
			return 0, 0, api.ErrForm
		}
		return n, i + 1, api.OK
	}
	if len(b) < maxDigits {
		return 0, 0, api.ErrShort
	}
	return 0, 0, api.ErrForm
}

// digits tells a number's digits, the lowest first, and of each whether it is the last one. Of 0 there is one.
func digits(n uint64) iter.Seq2[byte, bool] {
	return func(yield func(byte, bool) bool) {
		for rest := n; ; rest /= base {
			last := rest < base
			if !yield(byte(rest%base), last) || last {
				return
			}
		}
	}
}

// mayEnd tells whether a digit may be a number's last one, at place i: a 0 behind others would be a second form of their number, and what is above the tenth digit's most would be lost.
func mayEnd(digit byte, i int) bool {
	if digit == 0 {
		return i == 0
	}
	return i < maxDigits-1 || digit <= maxTenth
}
