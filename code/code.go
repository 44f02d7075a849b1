// Package code is layer 1: numbers and texts as bytes. See shared/doc/01-code.md.
package code

const (
	limit  = 1 << 53 // numbers are below it
	bits   = 7       // of a number in each of its bytes
	more   = 1 << bits
	groups = 8 // as many as the greatest number has; nine of them would be 2^56 or more, or not as short as may be
)

// Num is a number's bytes.
func Num(n int) []byte {
	if !isNum(n) {
		return nil
	}
	return addNum(nil, n)
}

// Text is a text's.
func Text(s string) []byte {
	return append(addNum(nil, len(s)), s...)
}

// List is a list's.
func List(l ...int) []byte {
	b := addNum(nil, len(l))
	for _, n := range l {
		if !isNum(n) {
			return nil
		}
		b = addNum(b, n)
	}
	return b
}

// GetNum is the number at a place, and the place behind it.
func GetNum(b []byte, at int) (int, int, bool) {
	if at < 0 {
		return 0, 0, false
	}
	n := 0
	for i := 0; i < groups && at+i < len(b); i++ {
		c := int(b[at+i])
		n |= (c % more) << (bits * i)
		if c >= more {
			continue
		}
		if n >= limit || c == 0 && i > 0 { // a last group of 0 could be left out
			break
		}
		return n, at + i + 1, true
	}
	return 0, 0, false
}

// GetText is the text at a place.
func GetText(b []byte, at int) (string, int, bool) {
	n, from, ok := GetNum(b, at)
	if !ok || n > len(b)-from {
		return "", 0, false
	}
	return string(b[from : from+n]), from + n, true
}

// GetList is the list at a place.
func GetList(b []byte, at, most int) ([]int, int, bool) {
	count, place, ok := GetNum(b, at)
	// Each number has a byte at least: no room is made for more of them than there can be.
	if !ok || count > most || count > len(b)-place {
		return nil, 0, false
	}
	take := func() (n int) {
		n, place, ok = GetNum(b, place)
		return n
	}
	l := make([]int, count)
	for i := range l {
		if l[i] = take(); !ok {
			return nil, 0, false
		}
	}
	return l, place, true
}

func isNum(n int) bool { return n >= 0 && n < limit }

func addNum(b []byte, n int) []byte {
	for ; n >= more; n >>= bits {
		b = append(b, byte(n)|more)
	}
	return append(b, byte(n))
}
