// Package codec is layer 3: numbers and texts as bytes, in one way: see shared/doc/03-codec.md.
package codec

import (
	"bytes"

	"purser/api"
)

// more is added to the byte of each group of seven bits but the last one's.
const more = 0x80

// So many groups do for a count of 63 bits, and for a number of 64.
const (
	countGroups  = 9
	numberGroups = 10
)

// Writer puts parts behind each other. Its zero value has nothing.
type Writer struct {
	all []byte
	err api.Errno
}

// Uint puts a count.
func (w *Writer) Uint(n int) {
	if w == nil {
		return
	}
	if n < 0 {
		w.err = api.ErrArg
		return
	}
	w.put(uint64(n))
}

// Int puts a number.
func (w *Writer) Int(n int) {
	if w == nil {
		return
	}
	if n < 0 {
		// -(n + 1) is an int of the least int, too, whose opposite isn't.
		w.put(2*uint64(-(n+1)) + 1)
		return
	}
	w.put(2 * uint64(n))
}

// Flag puts a yes or a no.
func (w *Writer) Flag(yes bool) {
	if w == nil {
		return
	}
	if yes {
		w.all = append(w.all, 1)
		return
	}
	w.all = append(w.all, 0)
}

// Text puts a text.
func (w *Writer) Text(b []byte) {
	if w == nil {
		return
	}
	w.put(uint64(len(b)))
	w.all = append(w.all, b...)
}

// put puts the groups of a number without a sign.
func (w *Writer) put(n uint64) {
	for n >= more {
		w.all = append(w.all, byte(n)|more)
		n >>= 7
	}
	w.all = append(w.all, byte(n))
}

// Bytes answers all bytes so far, and whether each part was one.
func (w *Writer) Bytes() ([]byte, api.Errno) {
	if w == nil {
		return nil, api.ErrArg
	}
	return bytes.Clone(w.all), w.err
}

// Reader takes parts.
type Reader struct {
	left []byte
	err  api.Errno
}

// Read answers a reader of the bytes.
func Read(b []byte) *Reader {
	return &Reader{left: bytes.Clone(b)}
}

// Uint takes a count, that is at most most.
func (r *Reader) Uint(most int) int {
	if r.stopped() {
		return 0
	}
	n, size, err := count(r.left, most)
	if err != api.OK {
		r.err = err
		return 0
	}
	r.left = r.left[size:]
	return n
}

// Int takes a number.
func (r *Reader) Int() int {
	if r.stopped() {
		return 0
	}
	n, size, err := groups(r.left, numberGroups)
	if err != api.OK {
		r.err = err
		return 0
	}
	r.left = r.left[size:]
	half := int(n / 2)
	if n%2 == 1 {
		return -half - 1
	}
	return half
}

// Flag takes a yes or a no.
func (r *Reader) Flag() bool {
	if r.stopped() {
		return false
	}
	if len(r.left) == 0 {
		r.err = api.ErrShort
		return false
	}
	c := r.left[0]
	if c > 1 {
		r.err = api.ErrForm
		return false
	}
	r.left = r.left[1:]
	return c == 1
}

// Text takes a text of at most so many bytes.
func (r *Reader) Text(most int) []byte {
	if r.stopped() {
		return nil
	}
	n, size, err := count(r.left, most)
	if err == api.OK && n > len(r.left)-size {
		err = api.ErrShort
	}
	if err != api.OK {
		r.err = err
		return nil
	}
	text := bytes.Clone(r.left[size : size+n])
	r.left = r.left[size+n:]
	return text
}

// Left answers how many bytes aren't taken.
func (r *Reader) Left() int {
	if r == nil {
		return 0
	}
	return len(r.left)
}

// End answers whether all was right, and all is taken.
func (r *Reader) End() api.Errno {
	if r == nil {
		return api.ErrArg
	}
	if r.err == api.OK && len(r.left) > 0 {
		return api.ErrTail
	}
	return r.err
}

// stopped says whether nothing more comes of the reader.
func (r *Reader) stopped() bool {
	return r == nil || r.err != api.OK
}

// count answers the count with which the bytes begin, if it is at most most, and how many bytes it has.
func count(b []byte, most int) (int, int, api.Errno) {
	n, size, err := groups(b, countGroups)
	if err != api.OK {
		return 0, 0, err
	}
	if int(n) > most {
		return 0, 0, api.ErrBig
	}
	return int(n), size, api.OK
}

// groups answers the number whose groups the bytes begin with, of at most so many groups, and how many there are.
// It is a machine of one state: each turn from the label on takes one group.
func groups(b []byte, most int) (uint64, int, api.Errno) {
	n, taken := uint64(0), 0
next:
	if taken == len(b) {
		return 0, 0, api.ErrShort
	}
	group := uint64(b[taken] % more)
	// Nine groups have 63 bits: of a tenth one a single bit has room.
	if taken == most || taken == countGroups && group > 1 {
		return 0, 0, api.ErrForm
	}
	n |= group << (7 * taken)
	taken++
	if b[taken-1] >= more {
		goto next
	}
	// A last group of 0 would write the same number in a second way.
	if group == 0 && taken > 1 {
		return 0, 0, api.ErrForm
	}
	return n, taken, api.OK
}
