// Package leb: numbers and tables as bytes: see DOC.md.
package leb

import "lodge/api"

// maxBytes is what the greatest number (MaxNumber) needs; at seven bits a byte,
// no three bytes hold a greater one.
const maxBytes = 3

// Put writes a number (P3).
func Put(n int) (string, api.Errno) {
	if n < 0 || n > api.MaxNumber {
		return "", api.ErrNumber
	}
	return numberBytes(n), api.OK
}

// numberBytes is Put for a number that is known to be within its bounds.
func numberBytes(n int) string {
	var l []byte
	for n >= 128 {
		l = append(l, byte(n%128+128))
		n = n / 128
	}
	l = append(l, byte(n))
	return string(l)
}

// Get reads a number (P3).
func Get(s string, at int) (int, int, api.Errno) {
	if at < 0 {
		return 0, 0, api.ErrBytes
	}
	n := 0
	weight := 1
	for i := at; i < len(s) && i-at < maxBytes; i++ {
		b := int(s[i])
		n += b % 128 * weight
		if b >= 128 {
			weight *= 128
			continue
		}
		// A last byte of 0 adds nothing: Put would have left it out.
		if b == 0 && i > at {
			return 0, 0, api.ErrBytes
		}
		return n, i + 1, api.OK
	}
	return 0, 0, api.ErrBytes
}
