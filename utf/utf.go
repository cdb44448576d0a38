// Package utf is layer 1: signs as bytes: see shared/doc/01-utf.md.
package utf

import (
	"spellwright/api"
)

// Each byte behind a sign's first one holds tailBits of its bits, and tailMark more, so that none of them can be taken for a first one.
const (
	tailBits = 6
	tailMask = 1<<tailBits - 1
	tailMark = 128
)

// Good tells whether a number is a sign. It is asked ahead of every conversion to a rune, which would wrap a number of more than 32 bits round to one that may be a sign.
func Good(n int) bool {
	switch {
	case n < 0:
		fallthrough
	case n > api.MaxRune:
		fallthrough
	case n >= api.LowHalf && n <= api.HighHalf:
		return false
	}
	return true
}

// Put are the bytes of signs.
func Put(l []int) ([]byte, api.Errno) {
	b := make([]byte, 0, len(l))
	for _, n := range l {
		if !Good(n) {
			return nil, api.ErrUtf
		}
		b = appendSign(b, rune(n))
	}
	return b, api.OK
}

// Take is the sign that bytes begin with, and how many of them are its own.
func Take(b []byte) (int, int, api.Errno) {
	if len(b) == 0 {
		return 0, 0, api.ErrUtf
	}
	size := sizeByHead(b[0])
	if size == 0 || size > len(b) {
		return 0, 0, api.ErrUtf
	}
	sign := rune(b[0] - headMark(size))
	for _, c := range b[1:size] {
		if c&^tailMask != tailMark {
			return 0, 0, api.ErrUtf
		}
		sign = sign<<tailBits | rune(c&tailMask)
	}
	// A sign has one form alone: bytes that spell it in more than it needs are no sign's.
	if !Good(int(sign)) || sizeOf(sign) != size {
		return 0, 0, api.ErrUtf
	}
	return int(sign), size, api.OK
}

// Read are the signs of bytes.
func Read(b []byte) ([]int, api.Errno) {
	var l []int
	for len(b) > 0 {
		n, size, err := Take(b)
		if err != api.OK {
			return nil, err
		}
		l = append(l, n)
		b = b[size:]
	}
	return l, api.OK
}

func appendSign(b []byte, sign rune) []byte {
	size := sizeOf(sign)
	shift := tailBits * (size - 1)
	b = append(b, headMark(size)+byte(sign>>shift))
	for shift > 0 {
		shift -= tailBits
		b = append(b, tailMark+byte(sign>>shift&tailMask))
	}
	return b
}

// sizeOf is how many bytes a sign has.
func sizeOf(sign rune) int {
	switch {
	case sign < 128:
		return 1
	case sign < 2048:
		return 2
	case sign < 65536:
		return 3
	}
	return 4
}

// headMark is what the first one of so many bytes has more than its sign's own bits.
func headMark(size int) byte {
	switch size {
	case 1:
		return 0
	case 2:
		return 192
	case 3:
		return 224
	}
	return 240
}

// sizeByHead is how many bytes a sign has that begins with this one; 0, if none does. Heads whose signs are too great, or too small for so many bytes, are left to Take, which sees the whole sign.
func sizeByHead(c byte) int {
	switch {
	case c < tailMark:
		return 1
	case c < 192:
		return 0
	case c < 224:
		return 2
	case c < 240:
		return 3
	case c < 248:
		return 4
	}
	return 0
}
