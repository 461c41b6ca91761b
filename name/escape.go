package name

import (
	"strings"

	"reveille/api"
)

const hexDigits = "0123456789abcdef"

// Escape: s in bytes that a name may have.
func Escape(s string) string {
	var out strings.Builder
	for i := range len(s) {
		switch b := s[i]; {
		case b == '/':
			out.WriteByte('-')
		case isLetterOrDigit(b) || b == ':' || b == '_' || b == '.' && i > 0:
			out.WriteByte(b)
		default:
			out.WriteString(`\x`)
			out.WriteByte(hexDigits[b>>4])
			out.WriteByte(hexDigits[b&15])
		}
	}
	return out.String()
}

// Unescape: the text of which Escape tells s; ErrEscape, if there is none.
func Unescape(s string) (string, api.Errno) {
	text, ok := read(s)
	if !ok || Escape(text) != s { // read takes bytes as they are and by number alike; Escape has one way for each
		return "", api.ErrEscape
	}
	return text, api.OK
}

// OfPath: a path as a name's prefix; ErrEscape, if it doesn't begin with `/` or one of its parts is none.
func OfPath(path string) (string, api.Errno) {
	if path == "/" {
		return "-", api.OK
	}
	inner, ok := strings.CutPrefix(path, "/")
	if !ok {
		return "", api.ErrEscape
	}
	inner = strings.TrimSuffix(inner, "/")
	if !hasParts(inner) {
		return "", api.ErrEscape
	}
	return Escape(inner), api.OK
}

// read: the text of s, where it is told by Escape or nearly so; false, if a `\` begins no number.
func read(s string) (string, bool) {
	var out strings.Builder
	for rest := s; rest != ""; {
		b := rest[0]
		rest = rest[1:]
		switch b {
		case '-':
			b = '/'
		case '\\':
			number, behind, ok := cutNumber(rest)
			if !ok {
				return "", false
			}
			b, rest = number, behind
		}
		out.WriteByte(b)
	}
	return out.String(), true
}

// cutNumber takes `x` and two hexadecimal digits at the head of s off: their number, what is left, and whether they were there.
func cutNumber(s string) (byte, string, bool) {
	if len(s) < 3 || s[0] != 'x' {
		return 0, "", false
	}
	high, low := strings.IndexByte(hexDigits, s[1]), strings.IndexByte(hexDigits, s[2])
	if high < 0 || low < 0 {
		return 0, "", false
	}
	return byte(high<<4 | low), s[3:], true
}

// hasParts: whether each part between the slashes of s names a file or a folder.
func hasParts(s string) bool {
	for part := range strings.SplitSeq(s, "/") {
		if part == "" || part == "." || part == ".." {
			return false
		}
	}
	return true
}
