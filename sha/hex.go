package sha

import (
	"strings"

	"rubrick/api"
)

const hexDigits = "0123456789abcdef"

// Hex returns the bytes of d as two lowercase hexadecimal digits each.
func Hex(d string) string {
	out := make([]byte, 0, 2*len(d))
	for i := range len(d) {
		out = append(out, hexDigits[d[i]>>4], hexDigits[d[i]&15])
	}
	return string(out)
}

// FromHex returns the bytes that Hex writes as s, or ErrForm if there are none.
func FromHex(s string) (string, api.Errno) {
	if len(s)%2 != 0 {
		return "", api.ErrForm
	}
	out := make([]byte, 0, len(s)/2)
	for i := 0; i < len(s); i += 2 {
		high, low := digit(s[i]), digit(s[i+1])
		if high < 0 || low < 0 {
			return "", api.ErrForm
		}
		out = append(out, byte(high<<4|low))
	}
	return string(out), api.OK
}

// digit returns the value of a hexadecimal digit, or -1 if c is none.
func digit(c byte) int {
	return strings.IndexByte(hexDigits, c)
}
