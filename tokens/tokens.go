// Package tokens: the tokens that a text is made of.
package tokens

import (
	"creed/api"
	"creed/signs"
)

// Kind is a kind of token.
type Kind uint8

const (
	Nothing Kind = iota // the text's end
	Word
	Variable
	Number
	Mark
	End
	Faulty // none: Errno tells why
)

// Token is a token, or why there is none, and where it stands.
type Token struct {
	Kind   Kind
	Name   string // a word's, a variable's, a mark's
	Value  int    // a number's
	Quoted bool
	Errno  api.Errno
	Place  int
	End    int
}

// Is tells whether it is that mark.
func (t Token) Is(mark string) bool { return t.Kind == Mark && t.Name == mark }

// Next is the first token that begins at from or, behind blanks, after it.
func Next(text string, from int) Token {
	place := skipBlanks(text, from)
	t := Token{Place: place, End: place}
	if place == len(text) {
		return t
	}
	t.Kind = Word
	switch signs.Of(text[place]) {
	case signs.Capital:
		t.Kind = Variable
		fallthrough
	case signs.Small:
		return t.named(text, spanEnd(text, place, inName))
	case signs.Sign:
		return t.ofSigns(text)
	case signs.Mark:
		t.Kind = Mark
		fallthrough
	case signs.Alone:
		return t.named(text, place+1)
	case signs.Quote:
		return t.quoted(text)
	case signs.Digit:
		return t.number(text)
	default:
		return t.faulty(api.ErrText)
	}
}

// IsWord tells whether a name is a word as it is, without quotes. A `.` by itself is none, since it may be the END.
func IsWord(name string) bool { return isWhole(name, Word) }

// IsVariable tells whether a name is a variable's.
func IsVariable(name string) bool { return isWhole(name, Variable) }

// isWhole tells whether a text is one token of that kind and nothing else, nor quoted.
func isWhole(text string, kind Kind) bool {
	t := Next(text, 0)
	return t.Kind == kind && !t.Quoted && t.Place == 0 && t.End == len(text)
}

// skipBlanks tells where the blanks that stand at place end.
func skipBlanks(text string, place int) int {
	comment := false
	for place < len(text) {
		switch signs.Of(text[place]) {
		case signs.LineEnd:
			comment = false
			fallthrough
		case signs.Blank:
			place++
		case signs.Percent:
			comment = true
			place++
		default:
			if !comment {
				return place
			}
			place++
		}
	}
	return place
}

func (t Token) faulty(e api.Errno) Token {
	return Token{Kind: Faulty, Errno: e, Place: t.Place, End: t.Place}
}

func (t Token) named(text string, end int) Token {
	t.Name, t.End = text[t.Place:end], end
	if len(t.Name) > api.MaxName {
		return t.faulty(api.ErrName)
	}
	return t
}

func (t Token) ofSigns(text string) Token {
	t = t.named(text, spanEnd(text, t.Place, isSign))
	if t.Name == "." && (t.End == len(text) || skipBlanks(text, t.End) > t.End) {
		return Token{Kind: End, Place: t.Place, End: t.End}
	}
	return t
}

func (t Token) number(text string) Token {
	t.Kind, t.End = Number, spanEnd(text, t.Place, isDigit)
	for _, digit := range text[t.Place:t.End] {
		t.Value = t.Value*10 + int(digit-'0')
		if t.Value > api.MaxInt {
			return t.faulty(api.ErrInt)
		}
	}
	return t
}

func (t Token) quoted(text string) Token {
	t.Quoted = true
	name := []byte{}
	place := t.Place + 1
	for {
		b, width := quotedByte(text, place)
		if width == 0 {
			break
		}
		name = append(name, b)
		place += width
	}
	if place == len(text) || text[place] != '\'' {
		return t.faulty(api.ErrText)
	}
	t.Name, t.End = string(name), place+1
	if len(t.Name) > api.MaxName {
		return t.faulty(api.ErrName)
	}
	return t
}

// quotedByte is the byte that a quoted name goes on with, and how much of the text tells it: nothing, where the name ends or what stands there can't.
func quotedByte(text string, place int) (byte, int) {
	if place == len(text) {
		return 0, 0
	}
	pair := text[place:min(place+2, len(text))]
	switch pair {
	case `''`:
		return '\'', 2
	case `\\`:
		return '\\', 2
	case `\n`:
		return '\n', 2
	case `\t`:
		return '\t', 2
	}
	switch pair[0] {
	case '\'', '\\', '\n':
		return 0, 0
	}
	return pair[0], 1
}

func spanEnd(text string, place int, belongs func(signs.Sort) bool) int {
	for place < len(text) && belongs(signs.Of(text[place])) {
		place++
	}
	return place
}

func inName(s signs.Sort) bool {
	return s == signs.Small || s == signs.Capital || s == signs.Digit
}

func isSign(s signs.Sort) bool { return s == signs.Sign }

func isDigit(s signs.Sort) bool { return s == signs.Digit }
