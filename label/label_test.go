package label

import (
	"strings"
	"testing"
)

func TestGoodLabels(t *testing.T) {
	for _, text := range []string{
		"a=b", "z=z", "a=0", "a=9", "a=z", "a=007", "a=a",
		"abcdef=abcdef", "zzzzzz=123456", "abcdef=a1b2c3",
		"a=1,b=2", "a=1,b=2,c=3", "a=1,b=2,c=3,d=4",
		"a=x,aa=x", "a=x,aa=x,ab=x,b=x", "ab=x,b=x", "az=x,b=x",
		"a=z,b=a", "a=x,b=x",
		"abcdea=123456,abcdeb=123456,abcdec=123456,abcded=123456",
	} {
		if !Valid(text) {
			t.Errorf("P3: %q are no labels", text)
		}
	}
}

func TestWrongLabels(t *testing.T) {
	for about, texts := range map[string][]string{
		"nothing, or half of a label":   {"", "a", "=", "a=", "=b", ",", "a,b=c", "a=b,c", "a=b,c=", "a=b,=c"},
		"a comma or a sign too many":    {"a=b,", ",a=b", "a=b,,c=d", "a==b", "a=b=c", "a=b,c=d,"},
		"a name that is too long":       {"abcdefg=b", "a=b,bcdefgh=c", strings.Repeat("a", 1000) + "=b"},
		"a value that is too long":      {"a=1234567", "a=b,c=abcdefg", "a=" + strings.Repeat("1", 1000)},
		"too many":                      {"a=1,b=2,c=3,d=4,e=5", strings.Repeat("a=b,", 100000) + "a=b"},
		"names that do not rise":        {"b=c,a=b", "aa=x,a=x", "ab=x,aa=x", "a=1,c=2,b=3", "b=x,ab=x", "a=1,b=2,d=3,c=4"},
		"a name twice":                  {"a=b,a=b", "a=b,a=c", "a=1,b=2,b=3", "a=1,b=2,c=3,c=4"},
		"a byte that no name has":       {"a1=b", "1=b", "A=b", "a_=b", "`=b", "{=b", "é=b", "\x00=b", "\xff=b"},
		"a byte that no value has":      {"a=B", "a=/", "a=:", "a=`", "a={", "a=-1", "a=é", "a=b\x00", "a=\xff", "a=\"b\""},
		"blanks":                        {" a=b", "a=b ", "a =b", "a= b", "a=b, c=d", "a=b ,c=d", "a=b\n", "a=\t", "a b=c"},
		"another mark instead of comma": {"a=b;c=d", "a=b.c=d", "a=b c=d"},
		"great":                         {strings.Repeat("a", 5000000), strings.Repeat(",", 5000000), strings.Repeat("=", 5000000)},
	} {
		for _, text := range texts {
			if Valid(text) {
				t.Errorf("P3: %s: %.60q are labels", about, text)
			}
		}
	}
}

// Every byte in every place of a short text: what may stand there is told once more, by hand.
func TestEachByte(t *testing.T) {
	for b := range 256 {
		c := string([]byte{byte(b)})
		letter := strings.Contains("abcdefghijklmnopqrstuvwxyz", c)
		digit := strings.Contains("0123456789", c)
		for text, want := range map[string]bool{
			c + "=v":          letter,
			"n" + c + "=v":    letter,
			"n=" + c:          letter || digit,
			"n=v" + c:         letter || digit,
			"n=v" + c + "w":   letter || digit,
			"n" + c + "v":     c == "=",
			"n=v" + c + "o=w": c == ",",
		} {
			if Valid(text) != want {
				t.Errorf("P3: Valid(%q) = %v", text, !want)
			}
		}
	}
}

func TestNamesAndValues(t *testing.T) {
	for text, want := range map[string]struct{ name, value bool }{
		"":        {false, false},
		"a":       {true, true},
		"z":       {true, true},
		"abcdef":  {true, true},
		"abcdefg": {false, false},
		"0":       {false, true},
		"a1":      {false, true},
		"123456":  {false, true},
		"1234567": {false, false},
		"A":       {false, false},
		"a b":     {false, false},
		"a=b":     {false, false},
		"é":       {false, false},
	} {
		if IsName(text) != want.name || IsValue(text) != want.value {
			t.Errorf("P5: %q: a name: %v, a value: %v", text, IsName(text), IsValue(text))
		}
	}
}

func TestValueOfAName(t *testing.T) {
	for _, one := range []struct{ labels, name, want string }{
		{"a=b", "a", "b"},
		{"a=b", "b", ""},
		{"a=b", "aa", ""},
		{"aa=b", "a", ""},
		{"a=1,b=2,c=3,d=4", "a", "1"},
		{"a=1,b=2,c=3,d=4", "c", "3"},
		{"a=1,b=2,c=3,d=4", "d", "4"},
		{"a=1,b=2,c=3,d=4", "e", ""},
		{"a=b,b=a", "b", "a"},
		{"a=x,aa=y,aaa=z", "aa", "y"},
		{"abcdef=123456", "abcdef", "123456"},
		{"abcdef=123456", "abcde", ""},
	} {
		if got := Value(one.labels, one.name); got != one.want {
			t.Errorf("P5: Value(%q, %q) = %q, want %q", one.labels, one.name, got, one.want)
		}
	}
}
