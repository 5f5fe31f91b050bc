// Package signs: what sort each byte of a text is of.
package signs

// Sort is what a byte is, for whoever splits a text into tokens.
type Sort uint8

const (
	Stranger Sort = iota // stands in no text
	Stray                // stands in texts, but begins no token
	Blank
	LineEnd
	Percent
	Quote
	Small   // a letter from a to z
	Capital // a letter from A to Z, or an underscore
	Digit
	Sign  // of a word of signs
	Alone // a word by itself
	Mark
)

var sorts = [128]Sort{
	'\t': Blank, '\n': LineEnd, ' ': Blank, '%': Percent,
	'"': Stray, '`': Stray, '\'': Quote,
	'!': Alone, ';': Alone,
	'(': Mark, ')': Mark, '[': Mark, ']': Mark, '{': Mark, '}': Mark, ',': Mark, '|': Mark,
	'+': Sign, '-': Sign, '*': Sign, '/': Sign, '\\': Sign, '^': Sign, '<': Sign, '>': Sign,
	'=': Sign, '~': Sign, ':': Sign, '.': Sign, '?': Sign, '@': Sign, '#': Sign, '&': Sign, '$': Sign,
	'0': Digit, '1': Digit, '2': Digit, '3': Digit, '4': Digit,
	'5': Digit, '6': Digit, '7': Digit, '8': Digit, '9': Digit,
	'a': Small, 'b': Small, 'c': Small, 'd': Small, 'e': Small, 'f': Small, 'g': Small,
	'h': Small, 'i': Small, 'j': Small, 'k': Small, 'l': Small, 'm': Small, 'n': Small,
	'o': Small, 'p': Small, 'q': Small, 'r': Small, 's': Small, 't': Small, 'u': Small,
	'v': Small, 'w': Small, 'x': Small, 'y': Small, 'z': Small,
	'A': Capital, 'B': Capital, 'C': Capital, 'D': Capital, 'E': Capital, 'F': Capital, 'G': Capital,
	'H': Capital, 'I': Capital, 'J': Capital, 'K': Capital, 'L': Capital, 'M': Capital, 'N': Capital,
	'O': Capital, 'P': Capital, 'Q': Capital, 'R': Capital, 'S': Capital, 'T': Capital, 'U': Capital,
	'V': Capital, 'W': Capital, 'X': Capital, 'Y': Capital, 'Z': Capital, '_': Capital,
}

// Of tells a byte's sort.
func Of(b byte) Sort {
	if int(b) >= len(sorts) {
		return Stranger
	}
	return sorts[b]
}

// FirstStranger tells the place of the first byte that stands in no text, or -1.
func FirstStranger(text string) int {
	for i := range len(text) {
		if Of(text[i]) == Stranger {
			return i
		}
	}
	return -1
}
