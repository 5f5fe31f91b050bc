package tokens

import (
	"testing"

	"creed/api"
)

func TestNext(t *testing.T) {
	for _, c := range []struct {
		text string
		from int
		want Token
	}{
		{"", 0, Token{}},
		{" %a", 0, Token{Kind: Nothing, Place: 3, End: 3}},
		{"%a\nb", 0, Token{Kind: Word, Name: "b", Place: 3, End: 4}},
		{"aB_1-", 0, Token{Kind: Word, Name: "aB_1", End: 4}},
		{"a B", 1, Token{Kind: Variable, Name: "B", Place: 2, End: 3}},
		{"=..a", 0, Token{Kind: Word, Name: "=..", End: 3}},
		{"'a''\\n'b", 0, Token{Kind: Word, Name: "a'\n", Quoted: true, End: 7}},
		{"007a", 0, Token{Kind: Number, Value: 7, End: 3}},
		{"((", 0, Token{Kind: Mark, Name: "(", End: 1}},
		{"!!", 0, Token{Kind: Word, Name: "!", End: 1}},
		{". ", 0, Token{Kind: End, End: 1}},
		{".%", 0, Token{Kind: End, End: 1}},
		{".a", 0, Token{Kind: Word, Name: ".", End: 1}},
		{" 'a", 0, Token{Kind: Faulty, Errno: api.ErrText, Place: 1, End: 1}},
		{" \"", 0, Token{Kind: Faulty, Errno: api.ErrText, Place: 1, End: 1}},
		{"1000000000000000", 0, Token{Kind: Faulty, Errno: api.ErrInt}},
		{"a123456789012345678901234567890123456789x", 0, Token{Kind: Faulty, Errno: api.ErrName}},
	} {
		if got := Next(c.text, c.from); got != c.want {
			t.Errorf("Next(%q, %d) = %+v, want %+v", c.text, c.from, got, c.want)
		}
	}
}

func TestWhole(t *testing.T) {
	for _, c := range []struct {
		name           string
		word, variable bool
	}{
		{"a", true, false}, {"aB_1", true, false}, {"=..", true, false}, {"..", true, false}, {"!", true, false}, {";", true, false},
		{"X", false, true}, {"_", false, true}, {"_a1", false, true},
		{"", false, false}, {".", false, false}, {"'a'", false, false}, {"'X'", false, false}, {"'", false, false}, {"1", false, false}, {"[]", false, false}, {",", false, false}, {"|", false, false}, {"%", false, false},
		{" a", false, false}, {"a ", false, false}, {"a%", false, false}, {"%\na", false, false}, {"a b", false, false}, {"a-", false, false}, {"!!", false, false}, {" X", false, false}, {"X ", false, false}, {"X(", false, false}, {"%\nX", false, false},
		{"a12345678901234567890123456789012345678901", false, false}, {"X12345678901234567890123456789012345678901", false, false},
	} {
		if word, variable := IsWord(c.name), IsVariable(c.name); word != c.word || variable != c.variable {
			t.Errorf("%q: a word %v, a variable %v", c.name, word, variable)
		}
	}
}
