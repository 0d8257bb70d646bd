package measure

import "strings"

const mostDigits = 6

// number tells which number a line is, and whether it is one. Digits are read
// as a whole number, so that -0 is 0, without a sign.
func number(line string) (int, bool) {
	digits, negative := strings.CutPrefix(line, "-")
	if len(digits) < 1 || len(digits) > mostDigits {
		return 0, false
	}
	n := 0
	for i := range len(digits) {
		if digits[i] < '0' || digits[i] > '9' {
			return 0, false
		}
		n = n*10 + int(digits[i]-'0')
	}
	if negative {
		n = -n
	}
	return n, true
}
