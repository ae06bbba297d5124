// Package octet is layer 1, numbers in bytes: see shared/doc/01-octet.md.
package octet

import (
	"strings"

	"siphon/api"
)

// Get reads a number, Put writes one.
func Get(s string, at int, width int) (int, api.Errno) {
	if at < 0 || !narrow(width) {
		return 0, api.ErrArg
	}
	if !stands(s, at, width) {
		return 0, api.ErrCut
	}
	return int(number(s[at : at+width])), api.OK
}

func Put(n int, width int) (string, api.Errno) {
	if !narrow(width) || n < 0 || n>>(8*width) != 0 {
		return "", api.ErrArg
	}
	return spread(uint64(n), width), api.OK
}

// Wide and Eight do so with eight bytes.
func Wide(s string, at int) (uint64, api.Errno) {
	if at < 0 {
		return 0, api.ErrArg
	}
	if !stands(s, at, 8) {
		return 0, api.ErrCut
	}
	return number(s[at : at+8]), api.OK
}

func Eight(n uint64) string { return spread(n, 8) }

// Cut is a part. It is copied, so that a short part doesn't keep a long text.
func Cut(s string, at int, n int) (string, api.Errno) {
	if at < 0 || n < 0 {
		return "", api.ErrArg
	}
	if !stands(s, at, n) {
		return "", api.ErrCut
	}
	return strings.Clone(s[at : at+n]), api.OK
}

// narrow tells whether Get and Put know such a width.
func narrow(width int) bool { return 1 <= width && width <= 4 }

// stands tells whether n bytes stand in s from at on; at and n are not below 0. It takes away, where at + n might wrap round.
func stands(s string, at int, n int) bool { return n <= len(s)-at }

// shift is by how many bits the byte at place i of so many stands above the last one.
func shift(i int, width int) int { return 8 * (width - 1 - i) }

// number is that of all bytes of s, which are at most eight.
func number(s string) uint64 {
	worth := func(i int) uint64 { return uint64(s[i]) << shift(i, len(s)) }
	var n uint64
	for i := range len(s) {
		n |= worth(i)
	}
	return n
}

// spread is the lowest bytes of n, so many as width says.
func spread(n uint64, width int) string {
	told := func(i int) byte { return byte(n >> shift(i, width)) }
	b := make([]byte, width)
	for i := range b {
		b[i] = told(i)
	}
	return string(b)
}
