// Package octet is layer 1: numbers and texts as bytes, and a reader that goes over them.
package octet

import (
	"jetty/api"
)

const (
	maxWidth = 8
	maxText  = 255
)

// Num: a number in so many bytes, the lowest first.
func Num(n uint64, width int) (string, api.Errno) {
	if width < 1 || width > maxWidth {
		return "", api.ErrArg
	}
	b := make([]byte, width)
	for i := range width {
		b[i] = byte(n)
		n >>= 8
	}
	if n != 0 {
		return "", api.ErrArg
	}
	return string(b), api.OK
}

// Val: back.
func Val(s string) (uint64, api.Errno) {
	if len(s) < 1 || len(s) > maxWidth {
		return 0, api.ErrArg
	}
	var n uint64
	for i := range len(s) {
		n |= uint64(s[i]) << (8 * i)
	}
	return n, api.OK
}

// Text: a text with its length ahead.
func Text(s string) (string, api.Errno) {
	if len(s) > maxText {
		return "", api.ErrLong
	}
	return string([]byte{byte(len(s))}) + s, api.OK
}

// A Reader goes over bytes; once it has asked for too much it is bad for good.
type Reader struct {
	rest string
	bad  bool
}

// Read: a reader of bytes.
func Read(s string) *Reader { return &Reader{rest: s} }

// Bytes: the next ones.
func (r *Reader) Bytes(n int) string {
	if r.Bad() {
		return ""
	}
	if n < 0 || n > len(r.rest) {
		r.spoil()
		return ""
	}
	s := r.rest[:n]
	r.rest = r.rest[n:]
	return s
}

// Num: the number in the next bytes.
func (r *Reader) Num(width int) uint64 {
	if r.Bad() {
		return 0
	}
	if width < 1 || width > maxWidth {
		r.spoil()
		return 0
	}
	// Of too few bytes Val answers 0, and the reader is bad by then.
	n, _ := Val(r.Bytes(width))
	return n
}

// Text: the text whose length comes next.
func (r *Reader) Text() string {
	n := r.Num(1)
	return r.Bytes(int(n))
}

// Left: how many bytes are left.
func (r *Reader) Left() int {
	if r.Bad() {
		return 0
	}
	return len(r.rest)
}

// Bad: did it ask for too much?
func (r *Reader) Bad() bool { return r == nil || r.bad }

func (r *Reader) spoil() {
	r.bad = true
	r.rest = ""
}
