package line

import (
	"strings"

	"reveille/api"
)

// Split: the words of s; ErrLine, if one that begins with a quote doesn't end as it must.
func Split(s string) ([]string, api.Errno) {
	var words []string
	rest := skipBlanks(s)
	for rest != "" {
		word, behind, ok := cutWord(rest)
		if !ok {
			return nil, api.ErrLine
		}
		words = append(words, word)
		rest = skipBlanks(behind)
	}
	return words, api.OK
}

// Quote: s as one word, whatever it is.
func Quote(s string) string {
	var out strings.Builder
	out.WriteByte('"')
	for i := range len(s) {
		switch b := s[i]; b {
		case '"', '\\':
			out.WriteByte('\\')
			out.WriteByte(b)
		case '\n':
			out.WriteString(`\n`)
		default:
			out.WriteByte(b)
		}
	}
	out.WriteByte('"')
	return out.String()
}

func skipBlanks(s string) string { return strings.TrimLeft(s, blanks) }

// cutWord takes the word at the head of s, which isn't empty, off: the word, what is left, and whether there is one.
func cutWord(s string) (string, string, bool) {
	if quote := s[0]; quote == '"' || quote == '\'' {
		word, rest, ok := cutQuoted(s[1:], quote)
		if !ok || blankAt(rest) != 0 {
			return "", "", false
		}
		return word, rest, true
	}
	end := blankAt(s)
	return s[:end], s[end:], true
}

// blankAt: where the first blank of s stands, or where s ends.
func blankAt(s string) int {
	if at := strings.IndexAny(s, blanks); at >= 0 {
		return at
	}
	return len(s)
}

// cutQuoted takes a word, its first quote gone already, off s: what it stands for, what is left, and whether it has an end.
func cutQuoted(s string, quote byte) (string, string, bool) {
	var word strings.Builder
	for rest := s; rest != ""; {
		b := rest[0]
		rest = rest[1:]
		switch b {
		case quote:
			return word.String(), rest, true
		case '\\':
			meant, ok := escaped(rest)
			if !ok {
				return "", "", false
			}
			b, rest = meant, rest[1:]
		}
		word.WriteByte(b)
	}
	return "", "", false
}

// escaped: what the first byte of s stands for behind a `\`; false, if for nothing.
func escaped(s string) (byte, bool) {
	if s == "" {
		return 0, false
	}
	switch s[0] {
	case '"', '\'', '\\':
		return s[0], true
	case 'n':
		return '\n', true
	}
	return 0, false
}
