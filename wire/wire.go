// Package wire: texts and numbers as bytes, as chapter 5 has them.
package wire

import "strings"

const numberBytes = 8

// Reader is what is left of the bytes. Its calls panic, if there are too few: Whole recovers that.
type Reader struct {
	rest string
}

// Whole tells the thing that one reads, if there are the bytes that one asks for, and no more.
func Whole[T any](s string, one func(*Reader) T) (x T, ok bool) {
	defer func() {
		if recover() != nil {
			var none T
			x, ok = none, false
		}
	}()
	r := &Reader{rest: s}
	x = one(r)
	if r.rest != "" {
		panic("bytes are left")
	}
	return x, true
}

// List tells so many things, one behind the other.
func List[T any](r *Reader, n int, one func(*Reader) T) []T {
	var l []T
	for range n {
		l = append(l, one(r))
	}
	return l
}

// Byte tells a number of one byte.
func (r *Reader) Byte() int {
	return int(r.take(1)[0])
}

// Text tells a text.
func (r *Reader) Text() string {
	// A copy, so that an answer holds nothing of the bytes that were handed in.
	return strings.Clone(r.take(r.Byte()))
}

// Number tells a number of eight bytes.
func (r *Reader) Number() int {
	// Bits that leave at the top, and a number below 0, come by going round.
	n := 0
	for _, b := range []byte(r.take(numberBytes)) {
		n = n<<8 | int(b)
	}
	return n
}

// Count tells how many things come behind: a number that is not below 0, else it panics.
func (r *Reader) Count() int {
	n := r.Number()
	if n < 0 {
		panic("fewer than none")
	}
	return n
}

func (r *Reader) take(n int) string {
	if n > len(r.rest) {
		panic("too few bytes")
	}
	s := r.rest[:n]
	r.rest = r.rest[n:]
	return s
}

// AppendText puts a text, of at most 255 bytes, behind.
func AppendText(b []byte, s string) []byte {
	return append(append(b, byte(len(s))), s...)
}

// AppendNumber puts a number's eight bytes behind.
func AppendNumber(b []byte, n int) []byte {
	for shift := 8 * (numberBytes - 1); shift >= 0; shift -= 8 {
		b = append(b, byte(n>>shift))
	}
	return b
}
