// Package csum is layer 2, the Internet's sums: see shared/doc/02-csum.md.
package csum

import (
	"iter"

	"siphon/api"
	"siphon/octet"
)

// most is the greatest number of a word.
const most = 65535

// Sum is a text's, Join that of two texts.
func Sum(s string) int {
	total := 0
	for w := range words(s) {
		total = plus(total, w)
	}
	return most - total
}

func Join(a int, la int, b int) (int, api.Errno) {
	if !isWord(a) || !isWord(b) || la < 0 {
		return 0, api.ErrArg
	}
	behind := most - b
	if la%2 == 1 {
		// Behind an odd length each byte of the second text stands in the other half of its word.
		behind = swapped(behind)
	}
	return most - plus(most-a, behind), api.OK
}

// Right tells whether a text has its sum in it.
func Right(s string) bool { return Sum(s) == 0 }

// Pseudo is what stands ahead of a message in its sum.
func Pseudo(src api.Addr, dst api.Addr, n int, proto int) (string, api.Errno) {
	size := len(src)
	if size != 4 && size != 16 || len(dst) != size || !isWord(n) {
		return "", api.ErrArg
	}
	kind, e := octet.Put(proto, 1)
	if e != api.OK {
		return "", e
	}
	both := string(src) + string(dst)
	if size == 4 {
		length, _ := octet.Put(n, 2)
		return both + "\x00" + kind + length, api.OK
	}
	length, _ := octet.Put(n, 4)
	return both + length + "\x00\x00\x00" + kind, api.OK
}

// Fill puts the sum into a text.
func Fill(ahead string, s string, at int) (string, api.Errno) {
	if at < 0 || at > len(s)-2 || len(ahead)%2 == 1 || at%2 == 1 {
		return "", api.ErrArg
	}
	head, _ := octet.Cut(s, 0, at)
	tail, _ := octet.Cut(s, at+2, len(s)-at-2)
	sum, _ := octet.Put(Sum(ahead+head+"\x00\x00"+tail), 2)
	return head + sum + tail, api.OK
}

// isWord tells whether n is the number of two bytes.
func isWord(n int) bool { return 0 <= n && n <= most }

// plus is the ones' addition of two words: what runs over at the top comes in again at the bottom.
func plus(a int, b int) int {
	n := a + b
	if n > most {
		n -= most
	}
	return n
}

// swapped is a word with its two bytes changed about.
func swapped(w int) int { return w%256*256 + w/256 }

// words are those of a text, one behind the other.
func words(s string) iter.Seq[int] {
	return func(yield func(int) bool) {
		for at := 0; at < len(s); at += 2 {
			if !yield(wordAt(s, at)) {
				return
			}
		}
	}
}

// wordAt is the word at a place ahead of the end; a last single byte is its higher half.
func wordAt(s string, at int) int {
	w, e := octet.Get(s, at, 2)
	if e == api.OK {
		return w
	}
	last, _ := octet.Get(s, at, 1)
	return last * 256
}
