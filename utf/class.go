package utf

// The classes of characters.
const (
	letter = 1
	digit  = 2
)

// classes lists ranges of characters, with the class of those in them.
var classes = [10]struct{ first, last, class int }{
	{0x30, 0x39, digit},
	{0x41, 0x5a, letter},
	{0x61, 0x7a, letter},
	{0xc0, 0xd6, letter},
	{0xd8, 0xf6, letter},
	{0xf8, 0xff, letter},
	{0x391, 0x3a1, letter},
	{0x3a3, 0x3a9, letter},
	{0x3b1, 0x3c9, letter},
	{0x400, 0x45f, letter},
}

// capitals lists the ranges of characters that are not their own lowercase forms, with what is added to those in them.
var capitals = [7]struct{ first, last, add int }{
	{0x41, 0x5a, 0x20},
	{0xc0, 0xd6, 0x20},
	{0xd8, 0xde, 0x20},
	{0x391, 0x3a1, 0x20},
	{0x3a3, 0x3a9, 0x20},
	{0x400, 0x40f, 0x50},
	{0x410, 0x42f, 0x20},
}

// Letter reports whether c is a letter.
func Letter(c int) bool {
	return isOf(c, letter)
}

// Digit reports whether c is a digit.
func Digit(c int) bool {
	return isOf(c, digit)
}

// isOf reports whether c is of the class.
func isOf(c, class int) bool {
	for _, r := range classes {
		if c >= r.first && c <= r.last {
			return r.class == class
		}
	}
	return false
}

// Small returns the lowercase form of c.
func Small(c int) int {
	for _, r := range capitals {
		if c >= r.first && c <= r.last {
			return c + r.add
		}
	}
	return c
}
