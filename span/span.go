// Package span: times and spans: see doc/01-span.md.
package span

import (
	"iter"
	"math"
	"strconv"
	"strings"

	"reveille/api"
)

// maxDigits bounds a part's digits, so that its number always fits an int64.
const maxDigits = 18

// unit: a word behind a number, and how many seconds it stands for.
type unit struct {
	word    string
	seconds int64
}

// read: the units that Parse knows. A word stands ahead of those that it begins with, so that the first one that fits is the longest.
var read = [...]unit{{"sec", 1}, {"s", 1}, {"min", 60}, {"m", 60}, {"hr", 3600}, {"h", 3600}, {"d", 86400}, {"w", 604800}}

// written: the units that Print takes, the greatest first.
var written = [...]unit{{"w", 604800}, {"d", 86400}, {"h", 3600}, {"min", 60}, {"s", 1}}

// Add: a + b within bounds; Forever stays Forever.
func Add(a, b int64) int64 {
	switch {
	case a == api.Forever || b == api.Forever:
		return api.Forever
	case b > 0 && a > api.Forever-b:
		return api.Forever
	case b < 0 && a < math.MinInt64-b:
		return math.MinInt64
	}
	return a + b
}

// Sub: a - b within bounds; it isn't Add of -b, since -2^63 has no opposite and -Forever is a number like others.
func Sub(a, b int64) int64 {
	switch {
	case a == api.Forever:
		return api.Forever
	case b == api.Forever:
		return math.MinInt64
	case b < 0 && a > api.Forever+b:
		return api.Forever
	case b > 0 && a < math.MinInt64+b:
		return math.MinInt64
	}
	return a - b
}

// Parse: the span that a text tells; ErrSpan, if it tells none.
func Parse(s string) (int64, api.Errno) {
	if s == "infinity" {
		return api.Forever, api.OK
	}
	rest := skipBlanks(s)
	if rest == "" {
		return 0, api.ErrSpan
	}
	sum := int64(0)
	for rest != "" {
		seconds, behind, ok := cutPart(rest)
		if !ok {
			return 0, api.ErrSpan
		}
		sum = Add(sum, seconds)
		rest = behind
	}
	return sum, api.OK
}

// cutPart takes the part at the head of s, and the blanks behind it, off s: its seconds, what is left, and whether there was one.
func cutPart(s string) (int64, string, bool) {
	number, rest, ok := cutNumber(s)
	if !ok {
		return 0, "", false
	}
	size, rest, named := cutUnit(skipBlanks(rest))
	rest = skipBlanks(rest)
	if !named && rest != "" { // only the last part may go without a unit
		return 0, "", false
	}
	return times(number, size), rest, true
}

// cutNumber takes the digits at the head of s off; false, if there are none or too many.
func cutNumber(s string) (int64, string, bool) {
	number := int64(0)
	i := 0
	for i < len(s) && '0' <= s[i] && s[i] <= '9' {
		if i == maxDigits {
			return 0, "", false
		}
		number = number*10 + int64(s[i]-'0')
		i++
	}
	return number, s[i:], i > 0
}

// cutUnit takes the unit at the head of s off; if there is none, it is seconds, and false.
func cutUnit(s string) (int64, string, bool) {
	for _, u := range read {
		if rest, ok := strings.CutPrefix(s, u.word); ok {
			return u.seconds, rest, true
		}
	}
	return 1, s, false
}

// times: number * size, at most Forever; number is at least 0, size above it.
func times(number, size int64) int64 {
	if number > api.Forever/size {
		return api.Forever
	}
	return number * size
}

func skipBlanks(s string) string { return strings.TrimLeft(s, " ") }

// Print: the text of a span.
func Print(n int64) string {
	switch {
	case n == api.Forever:
		return "infinity"
	case n == math.MinInt64: // it has no opposite to print
		return "-infinity"
	case n < 0:
		return "-" + Print(-n)
	case n == 0:
		return "0s"
	}
	var parts []string
	for _, u := range written {
		if count := n / u.seconds; count > 0 {
			parts = append(parts, strconv.FormatInt(count, 10)+u.word)
		}
		n %= u.seconds
	}
	return strings.Join(parts, " ")
}

// Least: the least of what l gives, and whether it gives anything.
func Least(l iter.Seq[int64]) (int64, bool) {
	least, found := int64(0), false
	for n := range l {
		if !found || n < least {
			least, found = n, true
		}
	}
	return least, found
}
