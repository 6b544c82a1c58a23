// Package cursor is layer 1: a place in bytes. See shared/doc/01-cursor.md.
//
// Cursors go on by value: each call answers the cursor that comes next, and
// leaves the one that it was given as it was.
package cursor

import "roadbook/api"

// The most bytes of a number: one more would not fit an int, sign and all.
const mostSize = 7

// New is a cursor at the first byte of s, with all of s ahead.
func New(s string) api.Cur { return api.Cur{S: s, End: len(s)} }

// Right tells whether c may be: 0, At, End and the length of S are in order.
func Right(c api.Cur) bool {
	return 0 <= c.At && c.At <= c.End && c.End <= len(c.S)
}

// Left is how many bytes can still be taken from c.
func Left(c api.Cur) int {
	if c.Bad {
		return 0
	}
	return c.End - c.At
}

// Num takes the number that the next size bytes make, the highest first.
func Num(c api.Cur, size int) (int, api.Cur) {
	if size < 1 || size > mostSize {
		return 0, spoil(c)
	}
	s, next := Text(c, size)
	return number(s), next
}

// Text takes the next n bytes.
func Text(c api.Cur, n int) (string, api.Cur) {
	if !has(c, n) {
		return "", spoil(c)
	}
	next := skip(c, n)
	return c.S[c.At:next.At], next
}

// Carve takes a cursor that has the next n bytes alone.
func Carve(c api.Cur, n int) (api.Cur, api.Cur) {
	if !has(c, n) {
		return api.Cur{}, spoil(c)
	}
	next := skip(c, n)
	part := c
	part.End = next.At
	return part, next
}

// has tells whether n bytes can be taken from c. Left alone would not do: a
// Bad cursor doesn't even give 0 bytes. Right is asked so that no cursor
// whatever makes a slice out of bounds.
func has(c api.Cur, n int) bool {
	return !c.Bad && Right(c) && 0 <= n && n <= Left(c)
}

// skip is c behind the next n bytes.
func skip(c api.Cur, n int) api.Cur {
	c.At += n
	return c
}

// spoil is c where it stands, Bad.
func spoil(c api.Cur) api.Cur {
	c.Bad = true
	return c
}

// number is what the bytes of s make, the highest first; 0 of none.
func number(s string) int {
	n := 0
	for i := 0; i < len(s); i++ {
		n = n<<8 | int(s[i])
	}
	return n
}
