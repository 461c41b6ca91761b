package line

import (
	"math/rand"
	"regexp"
	"slices"
	"strings"
	"testing"

	"reveille/api"
)

var (
	wordsPattern = regexp.MustCompile(`(?s)\A[ \t]*(` + wordForm + `([ \t]+` + wordForm + `)*)?[ \t]*\z`)
	wordPattern  = regexp.MustCompile(wordForm)
)

const wordForm = `(?s:"(?:[^"\\]|\\["'\\n])*"|'(?:[^'\\]|\\["'\\n])*'|[^ \t"'][^ \t]*)`

// wantedWords: P5.3 by patterns.
func wantedWords(s string) ([]string, api.Errno) {
	if !wordsPattern.MatchString(s) {
		return nil, 50
	}
	var out []string
	for _, word := range wordPattern.FindAllString(s, -1) {
		if word[0] == '"' || word[0] == '\'' {
			word = strings.NewReplacer(`\"`, `"`, `\'`, `'`, `\\`, `\`, `\n`, "\n").Replace(word[1 : len(word)-1])
		}
		out = append(out, word)
	}
	return out, 0
}

func checkSplit(t *testing.T, s string) {
	t.Helper()
	got, err := Split(s)
	if want, wantErr := wantedWords(s); !slices.Equal(got, want) || err != wantErr {
		t.Fatalf("Split(%.80q): %.200q, %d, want %.200q, %d", s, got, err, want, wantErr)
	}
}

func checkQuote(t *testing.T, s string) {
	t.Helper()
	quoted := Quote(s)
	want := `"` + strings.ReplaceAll(strings.ReplaceAll(strings.ReplaceAll(s, `\`, `\\`), `"`, `\"`), "\n", `\n`) + `"`
	if quoted != want {
		t.Fatalf("Quote(%.80q): %.80q, want %.80q", s, quoted, want)
	}
	if got, err := Split(quoted); !slices.Equal(got, []string{s}) || err != api.OK {
		t.Fatalf("Split(Quote(%.80q)): %.200q, %d", s, got, err)
	}
}

func TestSplitTakes(t *testing.T) { // P5.3
	for _, c := range []struct {
		s    string
		want []string
	}{
		{"", nil},
		{" ", nil},
		{"\t \t", nil},
		{"a", []string{"a"}},
		{"a b", []string{"a", "b"}},
		{" \ta\t \tbc ", []string{"a", "bc"}},
		{`""`, []string{""}},
		{`''`, []string{""}},
		{`'' ""`, []string{"", ""}},
		{`a "b c" ''`, []string{"a", "b c", ""}},
		{"\"a\tb\"\t' c '", []string{"a\tb", " c "}},
		{`"a'b" 'a"b'`, []string{"a'b", `a"b`}},
		{`"'" '"'`, []string{"'", `"`}},
		{`"\"\'\\\n" '\"\'\\\n'`, []string{"\"'\\\n", "\"'\\\n"}},
		{`"\\n"`, []string{`\n`}},
		{`"\\\\"`, []string{`\\`}},
		{`'\\'`, []string{`\`}},
		{`a"b c"`, []string{`a"b`, `c"`}},
		{`a'b'c`, []string{"a'b'c"}},
		{`a""`, []string{`a""`}},
		{`a\b \n \" \`, []string{`a\b`, `\n`, `\"`, `\`}},
		{`\"a b"`, []string{`\"a`, `b"`}},
		{"a\nb c\r", []string{"a\nb", "c\r"}},
		{"\n", []string{"\n"}},
		{"\"a\nb\"", []string{"a\nb"}},
		{"\x00\xff \u00a0 \v", []string{"\x00\xff", "\u00a0", "\v"}},
		{"\"\x00\xff\u00e4\"", []string{"\x00\xff\u00e4"}},
		{"# ; [ =", []string{"#", ";", "[", "="}},
		{"-x=\"y z\"", []string{"-x=\"y", "z\""}},
		{strings.Repeat("x", 100000), []string{strings.Repeat("x", 100000)}},
		{`"` + strings.Repeat(`\\`, 50000) + `"`, []string{strings.Repeat(`\`, 50000)}},
		{strings.Repeat(" ", 100000) + "a" + strings.Repeat("\t", 100000), []string{"a"}},
	} {
		if got, err := Split(c.s); !slices.Equal(got, c.want) || err != api.OK {
			t.Errorf("Split(%.80q): %.200q, %d, want %.200q", c.s, got, err, c.want)
		}
		checkSplit(t, c.s)
	}
}

func TestSplitRefuses(t *testing.T) { // P5.3
	for _, s := range []string{
		`"`, `'`, `"a`, `'a`, `"a'`, `'a"`, `a "b`, `a '`, `"a" "`, `"a b c`, `"""`, `'''`, `"a\"`, `'a\'`, `"\`, `'\`, `"a\`, `"\\\`,
		`"a"b`, `'a'b`, `""a`, `"a"'b'`, `"a""b"`, `''''`, `"a"\`, `'a'"`, "\"a\"\n", "\"a\"\r", "'a'\v", "'a'\u00a0", "'a'\x00", `a "b"c d`,
		`"\q"`, `'\t'`, `"\ "`, "\"\\\t\"", "'\\\n'", `"\x41"`, `"\0"`, `"\N"`, `"\a\n"`, `"a\n\b"`, "\"\\\xff\"", "\"\\\x00\"", `'\/'`,
		`a b "c`, `a b 'c' d"e" "f"g`, `"ok" 'no\z' ok`, strings.Repeat("a ", 100000) + `"`, `"` + strings.Repeat("a ", 100000),
	} {
		if got, err := Split(s); len(got) != 0 || err != api.ErrLine {
			t.Errorf("Split(%.80q): %.200q, %d", s, got, err)
		}
		checkSplit(t, s)
	}
}

func TestSplitByEachByte(t *testing.T) { // P5.3
	for b := range 256 {
		x := string([]byte{byte(b)})
		for _, frame := range []string{"?", "a?b", "?a", "a?", `"?"`, `'?'`, `"\?"`, `'\?'`, `"a"?`, `'a'?b`, `\?`, `?a b?`} {
			checkSplit(t, strings.ReplaceAll(frame, "?", x))
		}
	}
}

func TestSplitAgainstPatterns(t *testing.T) { // P5.3
	pieces := []string{"a", "n", " ", "\t", "\n", `"`, "'", `\`, "\xff"}
	allOf(pieces, 5, func(s string) { checkSplit(t, s) })
	pieces = append(pieces, `"a b"`, `' '`, `\\`, `\"`, `\'`, `\n`, `" `, `' `, ` "`, ` '`)
	r := rand.New(rand.NewSource(2))
	for range 50000 {
		var s strings.Builder
		for range r.Intn(14) {
			s.WriteString(pieces[r.Intn(len(pieces))])
		}
		checkSplit(t, s.String())
	}
}

func TestSplitIsNewMemory(t *testing.T) { // P5.3
	first, _ := Split("a 'b' c")
	second, _ := Split("a 'b' c")
	clear(first[:cap(first)])
	if !slices.Equal(second, []string{"a", "b", "c"}) {
		t.Errorf("touched: %q", second)
	}
}

func TestQuote(t *testing.T) { // P5.4
	for _, c := range []struct{ s, want string }{
		{"", `""`},
		{"a", `"a"`},
		{" a\tb ", "\" a\tb \""},
		{`"`, `"\""`},
		{`\`, `"\\"`},
		{"\n", `"\n"`},
		{`\n`, `"\\n"`},
		{"\\\n", `"\\\n"`},
		{`\"`, `"\\\""`},
		{"'", `"'"`},
		{"\r\v\x00\xff\u00e4", "\"\r\v\x00\xff\u00e4\""},
		{strings.Repeat("\"", 50000), `"` + strings.Repeat(`\"`, 50000) + `"`},
	} {
		if got := Quote(c.s); got != c.want {
			t.Errorf("Quote(%.80q): %.80q, want %.80q", c.s, got, c.want)
		}
	}
}

func TestSplitOfQuote(t *testing.T) { // P5.4, P5.5
	for a := range 256 {
		for b := range 256 {
			checkQuote(t, string([]byte{byte(a), byte(b)}))
		}
	}
	allOf([]string{"a", "n", " ", "\t", "\n", `"`, "'", `\`}, 5, func(s string) { checkQuote(t, s) })
	r := rand.New(rand.NewSource(3))
	for range 5000 {
		text := make([]byte, r.Intn(40))
		for i := range text {
			text[i] = byte(r.Intn(256))
		}
		checkQuote(t, string(text))
	}
	checkQuote(t, strings.Repeat("a \"\\\n'", 20000))
}

func TestSplitOfQuotedRow(t *testing.T) { // P5.5
	words := []string{"", "a b", `"`, "'", `\`, "\n", `\n`, "\t", "x"}
	var quoted []string
	for _, word := range words {
		quoted = append(quoted, Quote(word))
	}
	for _, between := range []string{" ", "\t", " \t "} {
		s := between + strings.Join(quoted, between) + between
		if got, err := Split(s); !slices.Equal(got, words) || err != api.OK {
			t.Errorf("Split(%q): %q, %d", s, got, err)
		}
	}
}

func FuzzWords(f *testing.F) { // P5.3, P5.4, P5.5
	for _, s := range []string{"", `a "b c" ''`, `'a\'b' "x\\y\n"`, `"a`, `"a"b`, `"a\qb"`, `a\b`, "\"'\\\n\t"} {
		f.Add(s)
	}
	f.Fuzz(func(t *testing.T, s string) {
		checkSplit(t, s)
		checkQuote(t, s)
	})
}
