package signs

import (
	"strings"
	"testing"
)

func TestOf(t *testing.T) {
	members := map[Sort]string{
		Stray: "\"`", Blank: " \t", LineEnd: "\n", Percent: "%", Quote: "'", Alone: "!;", Mark: "()[]{},|",
		Small: "abcdefghijklmnopqrstuvwxyz", Capital: "ABCDEFGHIJKLMNOPQRSTUVWXYZ_", Digit: "0123456789", Sign: "+-*/\\^<>=~:.?@#&$",
	}
	for b := range 256 {
		want := Stranger
		for sort, of := range members {
			if strings.IndexByte(of, byte(b)) >= 0 {
				want = sort
			}
		}
		if got := Of(byte(b)); got != want {
			t.Errorf("Of(%d) = %d, want %d", b, got, want)
		}
		inTexts := b >= 32 && b <= 126 || b == 9 || b == 10
		if inTexts == (want == Stranger) {
			t.Errorf("the byte %d is of sort %d", b, want)
		}
	}
}

func TestFirstStranger(t *testing.T) {
	for text, want := range map[string]int{"": -1, "a\t\n ~": -1, "\x7f": 0, "ab\x00\x00": 2, "é": 0, "a\r": 1} {
		if got := FirstStranger(text); got != want {
			t.Errorf("FirstStranger(%q) = %d, want %d", text, got, want)
		}
	}
}
