package name

import (
	"fmt"
	"math/rand"
	"strings"
	"testing"

	"reveille/api"
)

// wantedEscape: P4.2 byte by byte, by its words.
func wantedEscape(s string) string {
	const kept = "abcdefghijklmnopqrstuvwxyzABCDEFGHIJKLMNOPQRSTUVWXYZ0123456789:_."
	out := ""
	for i, b := range []byte(s) {
		switch {
		case b == '.' && i == 0:
			out += `\x2e`
		case strings.Contains(kept, string(rune(b))):
			out += string(rune(b))
		case b == '/':
			out += "-"
		default:
			out += fmt.Sprintf(`\x%02x`, b)
		}
	}
	return out
}

// wantedOfPath: P4.2 by its words, over wantedEscape.
func wantedOfPath(path string) (string, api.Errno) {
	if path == "/" {
		return "-", 0
	}
	if !strings.HasPrefix(path, "/") {
		return "", 41
	}
	parts := strings.Split(path[1:], "/")
	if len(parts) > 1 && parts[len(parts)-1] == "" {
		parts = parts[:len(parts)-1]
	}
	for _, part := range parts {
		if part == "" || part == "." || part == ".." {
			return "", 41
		}
	}
	return wantedEscape(strings.Join(parts, "/")), 0
}

func checkEscape(t *testing.T, s string) {
	t.Helper()
	escaped := Escape(s)
	if want := wantedEscape(s); escaped != want {
		t.Fatalf("Escape(%.60q): %.60q, want %.60q", s, escaped, want)
	}
	if got, err := Unescape(escaped); got != s || err != api.OK {
		t.Fatalf("Unescape(%.60q): %.60q, %d, want %.60q", escaped, got, err, s)
	}
}

func TestEscape(t *testing.T) { // P4.2
	for _, c := range []struct{ s, want string }{
		{"", ""},
		{"azAZ09:_", "azAZ09:_"},
		{"a/b", "a-b"},
		{"/", "-"},
		{"//", "--"},
		{"-", `\x2d`},
		{"a-b", `a\x2db`},
		{".", `\x2e`},
		{"..", `\x2e.`},
		{"a.b.", "a.b."},
		{"/.a", "-.a"},
		{"a/.b", "a-.b"},
		{`\`, `\x5c`},
		{`\x2d`, `\x5cx2d`},
		{"@", `\x40`},
		{"%", `\x25`},
		{" ", `\x20`},
		{"\x00\x0a\xff", `\x00\x0a\xff`},
		{"\u00e4", `\xc3\xa4`},
	} {
		if got := Escape(c.s); got != c.want {
			t.Errorf("Escape(%q): %q, want %q", c.s, got, c.want)
		}
		checkEscape(t, c.s)
	}
}

func TestUnescapeRefuses(t *testing.T) { // P4.2
	for _, s := range []string{
		".", ".a", "..", "/", "a/b", "@", "a@b", " ", "a b", "a%", "\x00", "\xff", "\u00e4", "a\n", "+", ",", ";", "`", "{", "[", "^", "~",
		`\`, `\\`, `\x`, `\x2`, `\x 2`, `\x2 `, `a\`, `a\x`, `a\x2`, `\2d`, `\X2d`, `\y2d`, `\-2d`, `\n`, `\\x2d`, `\x\x2d`, `\x2\x2d`,
		`\x2D`, `\xFF`, `\xfF`, `\xFf`, `\xfg`, `\xgf`, `\x0x`, `\x+1`, `\x-1`, `\x_1`, `\x1_`,
		`\x2f`, `\x41`, `\x5a`, `\x61`, `\x7a`, `\x30`, `\x39`, `\x3a`, `\x5f`, `a\x2e`, `\x2e\x2e`, `-\x2e`, `a\x2f`,
		`a-b\`, `a-b.c/d`, strings.Repeat("a", 100000) + `\`, strings.Repeat(`\x2d`, 10000) + "@",
	} {
		if got, err := Unescape(s); got != "" || err != api.ErrEscape {
			t.Errorf("Unescape(%.60q): %.60q, %d", s, got, err)
		}
	}
}

func TestUnescapeByEachNumber(t *testing.T) { // P4.2
	for b := range 256 {
		text := string([]byte{byte(b)})
		for _, head := range []string{"", "a", "/"} {
			checkEscape(t, head+text)
			for _, s := range []string{text, fmt.Sprintf(`\x%02x`, b)} {
				s = wantedEscape(head) + s
				want, wantErr := "", api.Errno(41)
				if s == "-" || s == "a-" || s == "--" { // these stand for another byte than they are
					want, wantErr = head+"/", 0
				} else if wantedEscape(head+text) == s {
					want, wantErr = head+text, 0
				}
				if got, err := Unescape(s); got != want || err != wantErr {
					t.Errorf("Unescape(%q): %q, %d, want %q, %d", s, got, err, want, wantErr)
				}
			}
		}
	}
}

// TestUnescapeAgainstAllTexts holds Unescape of every short row against a table of all texts whose escaped ones are such rows.
func TestUnescapeAgainstAllTexts(t *testing.T) { // P4.2, P4.5
	const letters, longest = `ax-.\2def/D`, 5
	var bytes []string // that such rows can stand for
	for b := range 256 {
		if s := string([]byte{byte(b)}); strings.Trim(wantedEscape("a"+s), letters) == "" {
			bytes = append(bytes, s)
		}
	}
	texts := map[string]string{}
	var grow func(text string)
	grow = func(text string) {
		escaped := wantedEscape(text)
		if len(escaped) > longest {
			return
		}
		if other, ok := texts[escaped]; ok {
			t.Fatalf("%q and %q are both %q", other, text, escaped)
		}
		texts[escaped] = text
		for _, b := range bytes {
			grow(text + b)
		}
	}
	grow("")
	found := 0
	allOf(strings.Split(letters, ""), longest, func(s string) {
		want, ok := texts[s]
		wantErr := api.Errno(41)
		if ok {
			wantErr = 0
			found++
		}
		if got, err := Unescape(s); got != want || err != wantErr {
			t.Fatalf("Unescape(%q): %q, %d, want %q, %d", s, got, err, want, wantErr)
		}
	})
	if found != len(texts) {
		t.Errorf("%d of %d texts", found, len(texts))
	}
}

func TestOfPath(t *testing.T) { // P4.2
	for _, c := range []struct {
		path, want string
		err        api.Errno
	}{
		{"/", "-", api.OK},
		{"/var/log", "var-log", api.OK},
		{"/var/log/", "var-log", api.OK},
		{"/a", "a", api.OK},
		{"/a/", "a", api.OK},
		{"/.a", `\x2ea`, api.OK},
		{"/a/.b", "a-.b", api.OK},
		{"/...", `\x2e..`, api.OK},
		{"/a./b..", "a.-b..", api.OK},
		{"/a/...", "a-...", api.OK},
		{"/a-b/c d", `a\x2db-c\x20d`, api.OK},
		{"/-", `\x2d`, api.OK},
		{"/ ", `\x20`, api.OK},
		{"/\x00\xff", `\x00\xff`, api.OK},
		{"", "", api.ErrEscape},
		{"a", "", api.ErrEscape},
		{"a/b", "", api.ErrEscape},
		{"a/", "", api.ErrEscape},
		{".", "", api.ErrEscape},
		{"./a", "", api.ErrEscape},
		{" /a", "", api.ErrEscape},
		{`\x2fa`, "", api.ErrEscape},
		{"//", "", api.ErrEscape},
		{"///", "", api.ErrEscape},
		{"//a", "", api.ErrEscape},
		{"/a//b", "", api.ErrEscape},
		{"/a//", "", api.ErrEscape},
		{"/.", "", api.ErrEscape},
		{"/./", "", api.ErrEscape},
		{"/..", "", api.ErrEscape},
		{"/../", "", api.ErrEscape},
		{"/./a", "", api.ErrEscape},
		{"/../a", "", api.ErrEscape},
		{"/a/./b", "", api.ErrEscape},
		{"/a/../b", "", api.ErrEscape},
		{"/a/.", "", api.ErrEscape},
		{"/a/..", "", api.ErrEscape},
		{"/a/../", "", api.ErrEscape},
		{strings.Repeat("/a", 100000), "a" + strings.Repeat("-a", 99999), api.OK},
		{strings.Repeat("/a", 100000) + "//", "", api.ErrEscape},
	} {
		if got, err := OfPath(c.path); got != c.want || err != c.err {
			t.Errorf("OfPath(%.60q): %.60q, %d, want %.60q, %d", c.path, got, err, c.want, c.err)
		}
	}
}

func TestOfPathAgainstWords(t *testing.T) { // P4.2
	allOf([]string{"/", ".", "a", "-", "\\"}, 7, func(path string) {
		got, err := OfPath(path)
		if want, wantErr := wantedOfPath(path); got != want || err != wantErr {
			t.Fatalf("OfPath(%q): %q, %d, want %q, %d", path, got, err, want, wantErr)
		}
	})
}

func TestEscapedComesBack(t *testing.T) { // P4.5
	for a := range 256 {
		for b := range 256 {
			checkEscape(t, string([]byte{byte(a), byte(b)}))
		}
	}
	r := rand.New(rand.NewSource(2))
	for range 5000 {
		text := make([]byte, r.Intn(40))
		for i := range text {
			text[i] = byte(r.Intn(256))
		}
		checkEscape(t, string(text))
	}
	checkEscape(t, strings.Repeat("x/y-\xff.", 5000))
}

func TestTwoTextsHaveTwoEscapedOnes(t *testing.T) { // P4.5
	texts := map[string]string{}
	allOf([]string{"a", "/", "-", ".", `\`, `\x2d`, "x2d", "\x2d", "\xff"}, 4, func(text string) {
		escaped := Escape(text)
		if other, ok := texts[escaped]; ok && other != text {
			t.Fatalf("Escape(%q) and Escape(%q) are both %q", other, text, escaped)
		}
		texts[escaped] = text
	})
}

func TestEscapedStandsInNames(t *testing.T) { // P4.5
	for b := range 256 {
		text := "." + string([]byte{byte(b)})
		unit, err := With("a@.service", Escape(text))
		if err != api.OK {
			t.Fatalf("With Escape(%q): %d", text, err)
		}
		if got, err := Expand("%I", unit); got != text || err != api.OK {
			t.Errorf("%%I of %q: %q, %d, want %q", unit, got, err, text)
		}
	}
}

func FuzzEscape(f *testing.F) { // P4.2, P4.5
	for _, s := range []string{"", "/", "/var/log", ".a", `\x2d`, `a\x2e`, "a-b", "/a//b", "\xff"} {
		f.Add(s)
	}
	f.Fuzz(func(t *testing.T, s string) {
		checkEscape(t, s)
		if text, err := Unescape(s); err == api.OK && wantedEscape(text) != s || err != api.OK && (text != "" || err != api.ErrEscape) {
			t.Errorf("Unescape(%q): %q, %d", s, text, err)
		}
		got, err := OfPath(s)
		if want, wantErr := wantedOfPath(s); got != want || err != wantErr {
			t.Errorf("OfPath(%q): %q, %d, want %q, %d", s, got, err, want, wantErr)
		}
	})
}
