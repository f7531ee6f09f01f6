package code

import "rubrick/api"

// Reader is a place in bytes that are being decoded, and the first error that has occurred there.
type Reader struct {
	B  []byte
	At int
	E  api.Errno
}

// ReadNum returns the reader after the number that is next in r, and the number.
func ReadNum(r Reader) (Reader, int) {
	return read(r, num)
}

// ReadText returns the reader after the string of at most most bytes that is next in r, and the string.
func ReadText(r Reader, most int) (Reader, string) {
	return read(r, func(b []byte) (string, int, api.Errno) {
		return text(b, most)
	})
}

// ReadList returns the reader after the list that is next in r, and the list, which has at most many strings of at most most bytes each.
func ReadList(r Reader, many, most int) (Reader, []string) {
	return read(r, func(b []byte) ([]string, int, api.Errno) {
		return list(b, many, most)
	})
}

// ReadDigest returns the reader after the digest that is next in r, and the digest.
func ReadDigest(r Reader) (Reader, string) {
	return read(r, digest)
}

// Done returns what keeps r from being at the end of its bytes without an error.
func Done(r Reader) api.Errno {
	e := blocked(r)
	if e == api.OK && r.At < len(r.B) {
		return api.ErrForm
	}
	return e
}

// blocked returns the error on account of which nothing can be read from r.
func blocked(r Reader) api.Errno {
	if r.E == api.OK && (r.At < 0 || r.At > len(r.B)) {
		return api.ErrArg
	}
	return r.E
}

// read takes what is next in r. With an error, take returns no value and no bytes, so that the reader stays where it was.
func read[T any](r Reader, take func(b []byte) (value T, size int, e api.Errno)) (Reader, T) {
	var value T
	size, e := 0, blocked(r)
	if e == api.OK {
		value, size, e = take(r.B[r.At:])
	}
	return Reader{B: own(r.B), At: r.At + size, E: e}, value
}

// num returns the number that b begins with, and how many bytes it has there.
func num(b []byte) (int, int, api.Errno) {
	v, last := 0, 0
groups:
	for ; ; last++ {
		switch {
		case last == mostGroups:
			return 0, 0, api.ErrForm
		case last == len(b):
			return 0, 0, api.ErrMore
		case b[last] < another:
			break groups
		}
		v |= int(b[last]-another) << (groupBits * last)
	}
	v |= int(b[last]) << (groupBits * last)
	// A last group of zero is not necessary, unless it is the only one.
	if last > 0 && b[last] == 0 || v > api.MaxNum {
		return 0, 0, api.ErrForm
	}
	return v, last + 1, api.OK
}

// text returns the string that b begins with, and how many bytes it has there.
func text(b []byte, most int) (string, int, api.Errno) {
	length, at, e := num(b)
	switch {
	case e != api.OK:
		return "", 0, e
	case length > most:
		return "", 0, api.ErrForm
	case length > len(b)-at:
		return "", 0, api.ErrMore
	}
	end := at + length
	return string(b[at:end]), end, api.OK
}

// list returns the list that b begins with, and how many bytes it has there.
func list(b []byte, many, most int) ([]string, int, api.Errno) {
	length, at, e := num(b)
	switch {
	case e != api.OK:
		return nil, 0, e
	case length > many:
		return nil, 0, api.ErrForm
	}
	// The list grows with the bytes that are there: its length is only what they claim.
	var l []string
	for range length {
		s, size, wrong := text(b[at:], most)
		if wrong != api.OK {
			return nil, 0, wrong
		}
		l = append(l, s)
		at += size
	}
	return l, at, api.OK
}

// digest returns the digest that b begins with, and how many bytes it has there.
func digest(b []byte) (string, int, api.Errno) {
	if len(b) < api.DigestLen {
		return "", 0, api.ErrMore
	}
	return string(b[:api.DigestLen]), api.DigestLen, api.OK
}
