package token

import (
	"regexp"
	"slices"
	"strings"
	"testing"
)

func cuts(t *testing.T, text string, want ...Token) {
	t.Helper()
	got := Cut(text)
	for i := range got {
		if got[i].Kind == Wrong {
			// What a wrong token has of the text means nothing.
			got[i].Text = ""
		}
	}
	if !slices.Equal(got, want) {
		t.Errorf("P5: Cut(%.60q) = %v, want %v", text, got, want)
	}
}

func TestTokens(t *testing.T) {
	cuts(t, "", Token{End, 0, ""})
	cuts(t, "   ", Token{End, 3, ""})
	cuts(t, "ab", Token{Word, 0, "ab"}, Token{End, 2, ""})
	cuts(t, " az  za ", Token{Word, 1, "az"}, Token{Word, 5, "za"}, Token{End, 8, ""})
	cuts(t, "09", Token{Number, 0, "09"}, Token{End, 2, ""})
	cuts(t, "a1b2", Token{Word, 0, "a"}, Token{Number, 1, "1"}, Token{Word, 2, "b"}, Token{Number, 3, "2"}, Token{End, 4, ""})
	cuts(t, `""`, Token{String, 0, ""}, Token{End, 2, ""})
	cuts(t, ` "a b"`, Token{String, 1, "a b"}, Token{End, 6, ""})
	cuts(t, `"a""b"c`, Token{String, 0, "a"}, Token{String, 3, "b"}, Token{Word, 6, "c"}, Token{End, 7, ""})
	cuts(t, "\"\x00\xff\n\\!|=é\"", Token{String, 0, "\x00\xff\n\\!|=é"}, Token{End, 11, ""})
	cuts(t, "!=|==", Token{Mark, 0, "!="}, Token{Mark, 2, "|="}, Token{Mark, 4, "="}, Token{End, 5, ""})
	cuts(t, "{}()", Token{Mark, 0, "{"}, Token{Mark, 1, "}"}, Token{Mark, 2, "("}, Token{Mark, 3, ")"}, Token{End, 4, ""})
	cuts(t, "[],=", Token{Mark, 0, "["}, Token{Mark, 1, "]"}, Token{Mark, 2, ","}, Token{Mark, 3, "="}, Token{End, 4, ""})
}

func TestWrongTokens(t *testing.T) {
	cuts(t, "!", Token{Wrong, 0, ""})
	cuts(t, "a !", Token{Word, 0, "a"}, Token{Wrong, 2, ""})
	cuts(t, "|", Token{Wrong, 0, ""})
	cuts(t, "! =", Token{Wrong, 0, ""})
	cuts(t, "!|=", Token{Wrong, 0, ""})
	cuts(t, "||=", Token{Wrong, 0, ""})
	cuts(t, "!a", Token{Wrong, 0, ""})
	cuts(t, "==!", Token{Mark, 0, "="}, Token{Mark, 1, "="}, Token{Wrong, 2, ""})
	cuts(t, `"`, Token{Wrong, 0, ""})
	cuts(t, `a"b`, Token{Word, 0, "a"}, Token{Wrong, 1, ""})
	cuts(t, `"a" "b c`, Token{String, 0, "a"}, Token{Wrong, 4, ""})
	cuts(t, "a\tb", Token{Word, 0, "a"}, Token{Wrong, 1, ""})
	cuts(t, "aB", Token{Word, 0, "a"}, Token{Wrong, 1, ""})
	cuts(t, "?"+strings.Repeat("a", 1000), Token{Wrong, 0, ""})
}

// Each byte alone: what it begins is told once more, by hand.
func TestEachByte(t *testing.T) {
	for b := range 256 {
		text := string([]byte{byte(b)})
		switch {
		case b == ' ':
			cuts(t, text, Token{End, 1, ""})
		case strings.Contains("abcdefghijklmnopqrstuvwxyz", text):
			cuts(t, text, Token{Word, 0, text}, Token{End, 1, ""})
		case strings.Contains("0123456789", text):
			cuts(t, text, Token{Number, 0, text}, Token{End, 1, ""})
		case strings.Contains("{}()[],=", text):
			cuts(t, text, Token{Mark, 0, text}, Token{End, 1, ""})
		default:
			cuts(t, text, Token{Wrong, 0, ""})
		}
		if b != '"' {
			cuts(t, `"`+text+`"`, Token{String, 0, text}, Token{End, 3, ""})
		}
	}
}

var pattern = regexp.MustCompile(`^(?:([a-z]+)|([0-9]+)|"([^"]*)"|([!|]=|[{}()\[\],=]))`)

// expected cuts a text in another way.
func expected(text string) []Token {
	var list []Token
	for at := 0; ; {
		rest := strings.TrimLeft(text[at:], " ")
		at = len(text) - len(rest)
		if rest == "" {
			return append(list, Token{End, at, ""})
		}
		found := pattern.FindStringSubmatchIndex(rest)
		if found == nil {
			return append(list, Token{Wrong, at, ""})
		}
		for i, kind := range []Kind{Word, Number, String, Mark} {
			if from := found[2*i+2]; from >= 0 {
				list = append(list, Token{kind, at, rest[from:found[2*i+3]]})
			}
		}
		at += found[1]
	}
}

// All texts of up to five bytes out of a few.
func TestAllShortTexts(t *testing.T) {
	var grow func(text string, left int)
	grow = func(text string, left int) {
		cuts(t, text, expected(text)...)
		for i := 0; left > 0 && i < 10; i++ {
			grow(text+"a0 \"!|={,?"[i:i+1], left-1)
		}
	}
	grow("", 5)
}

// The automaton comes to the end of long texts too, whichever of its states they keep it in.
func TestLongTexts(t *testing.T) {
	for _, piece := range []string{"a", "0", " ", "=", `""`, "!=", "a0", "{", "\"a", "a\"b c\"1"} {
		text := strings.Repeat(piece, 2000)
		cuts(t, text, expected(text)...)
	}
}
