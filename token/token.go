// Package token cuts the text of a query into tokens.
package token

// Kind: what a token is.
type Kind int

const (
	End    Kind = iota // none: the text's end
	Wrong              // none: no token begins so
	Word               // letters
	Number             // digits
	String             // any bytes, between two "
	Mark               // one of != |= { } ( ) [ ] , =
)

// Token: a part of a text, and the place where it begins. The text of a
// string is what stands between its marks.
type Token struct {
	Kind  Kind
	Place int
	Text  string
}

// Cut tells the tokens of a text. The last one, and it alone, is an end or
// wrong: what stands behind a wrong one can change nothing.
func Cut(text string) []Token {
	c := &cutter{text: text}
	var list []Token
	for {
		one := c.next()
		list = append(list, one)
		if one.Kind == End || one.Kind == Wrong {
			return list
		}
	}
}

// cutter: a text of which all ahead of begin is cut, and all ahead of at is seen.
type cutter struct {
	text      string
	begin, at int
}

// next is the automaton that cuts a token: its states are the labels, and each
// of them but the first is come to with a byte of the token still to be seen.
func (c *cutter) next() Token {
between:
	c.begin = c.at
	switch c.look() {
	case blank:
		c.step()
		goto between
	case letter:
		goto word
	case digit:
		goto number
	case quote:
		goto inside
	case half:
		goto first
	case equals, single:
		goto last
	case ended:
		return c.cut(End)
	}
	goto wrong

word:
	if c.step() == letter {
		goto word
	}
	return c.cut(Word)

number:
	if c.step() == digit {
		goto number
	}
	return c.cut(Number)

inside:
	switch c.step() {
	case quote:
		goto closing
	case ended:
		goto wrong
	}
	goto inside

closing:
	c.step()
	return c.cut(String)

first:
	if c.step() != equals {
		goto wrong
	}
	goto last

last:
	c.step()
	return c.cut(Mark)

wrong:
	return c.cut(Wrong)
}

// step goes on by a byte, and looks at the one behind it.
func (c *cutter) step() class {
	c.at++
	return c.look()
}

// cut makes a token of what was seen since the last one.
func (c *cutter) cut(kind Kind) Token {
	text := c.text[c.begin:c.at]
	if kind == String {
		text = text[1 : len(text)-1]
	}
	return Token{Kind: kind, Place: c.begin, Text: text}
}

// class: what the automaton tells bytes apart by.
type class int

const (
	ended  class = iota // no byte: the text is at its end
	blank               // the one blank that may stand between tokens
	letter              // a to z
	digit               // 0 to 9
	quote               // "
	equals              // a mark of its own, and the end of those that a half begins
	half                // ! or |
	single              // every other mark
	stray               // a byte that begins no token
)

func (c *cutter) look() class {
	if c.at >= len(c.text) {
		return ended
	}
	switch b := c.text[c.at]; {
	case b == ' ':
		return blank
	case 'a' <= b && b <= 'z':
		return letter
	case '0' <= b && b <= '9':
		return digit
	case b == '"':
		return quote
	case b == '=':
		return equals
	case b == '!' || b == '|':
		return half
	case b == '{' || b == '}' || b == '(' || b == ')' || b == '[' || b == ']' || b == ',':
		return single
	}
	return stray
}
