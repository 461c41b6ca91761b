package name

import (
	"maps"
	"math/rand"
	"regexp"
	"slices"
	"strings"
	"testing"

	"reveille/api"
)

// endingsByKind: by the document.
var endingsByKind = map[int]string{1: ".service", 2: ".socket", 3: ".timer", 4: ".path", 5: ".mount", 6: ".target"}

var namePattern = regexp.MustCompile(`\A([A-Za-z0-9:_.\\-]+)(@([A-Za-z0-9:_.\\-]*))?\.(service|socket|timer|path|mount|target)\z`)

// told: what the calls of P4.1 tell of a text.
type told struct {
	is       bool
	kind     int
	prefix   string
	instance string
	marked   bool
	template string
}

func tell(s string) told {
	instance, marked := Instance(s)
	return told{Is(s), Kind(s), Prefix(s), instance, marked, Template(s)}
}

// wantedTold: P4.1 by a pattern.
func wantedTold(s string) told {
	m := namePattern.FindStringSubmatch(s)
	if m == nil || len(s) > 60 {
		return told{}
	}
	want := told{is: true, prefix: m[1], instance: m[3], marked: m[2] != ""}
	for kind, ending := range endingsByKind {
		if ending == "."+m[4] {
			want.kind = kind
		}
	}
	if want.marked {
		want.template = m[1] + "@." + m[4]
	}
	return want
}

// wantedWith: P4.1 by what the other calls of it are to tell.
func wantedWith(s, instance string) (string, api.Errno) {
	of := wantedTold(s)
	if of.template == "" || of.template != s {
		return "", 40
	}
	whole := of.prefix + "@" + instance + endingsByKind[of.kind]
	if !wantedTold(whole).is {
		return "", 40
	}
	return whole, 0
}

// allOf: each row of up to so many pieces.
func allOf(pieces []string, most int, check func(string)) {
	var grow func(s string, left int)
	grow = func(s string, left int) {
		check(s)
		if left == 0 {
			return
		}
		for _, p := range pieces {
			grow(s+p, left-1)
		}
	}
	grow("", most)
}

func TestNames(t *testing.T) { // P4.1
	for _, c := range []struct {
		s    string
		want told
	}{
		{"a.service", told{true, 1, "a", "", false, ""}},
		{"a.socket", told{true, 2, "a", "", false, ""}},
		{"a.timer", told{true, 3, "a", "", false, ""}},
		{"a.path", told{true, 4, "a", "", false, ""}},
		{"a.mount", told{true, 5, "a", "", false, ""}},
		{"a.target", told{true, 6, "a", "", false, ""}},
		{"a@b.service", told{true, 1, "a", "b", true, "a@.service"}},
		{"a@.service", told{true, 1, "a", "", true, "a@.service"}},
		{"Zz09:-_.\\@Zz09:-_.\\.target", told{true, 6, "Zz09:-_.\\", "Zz09:-_.\\", true, "Zz09:-_.\\@.target"}},
		{"a.service.socket", told{true, 2, "a.service", "", false, ""}},
		{"a@b.socket.service", told{true, 1, "a", "b.socket", true, "a@.service"}},
		{"a.service@b.socket", told{true, 2, "a.service", "b", true, "a.service@.socket"}},
		{"..service", told{true, 1, ".", "", false, ""}},
		{".service.service", told{true, 1, ".service", "", false, ""}},
		{"a..service", told{true, 1, "a.", "", false, ""}},
		{"a@..service", told{true, 1, "a", ".", true, "a@.service"}},
		{"-.mount", told{true, 5, "-", "", false, ""}},
		{"\\.mount", told{true, 5, "\\", "", false, ""}},
		{"service.path", told{true, 4, "service", "", false, ""}},
	} {
		if got := tell(c.s); got != c.want {
			t.Errorf("%q: %v, want %v", c.s, got, c.want)
		}
	}
}

func TestNoNames(t *testing.T) { // P4.1
	for _, s := range []string{
		"", ".", "@", "a", "a@", "a@b", "a.", "service", ".service", "@.service", "@b.service", "aservice", "a.@service", "a.service@", "a@service",
		"a@b@c.service", "a@@.service", "a@@b.service", "a@b@.service", "@@.service", "@a@.service",
		"a.Service", "a.SERVICE", "a.services", "a.servic", "a.service.", "a.service ", "a.service\n", "a.service\x00", " a.service", "\na.service", "a.scope", "a.slice", "a.service.d",
		"a b.service", "a/b.service", "/a.service", "a+b.service", "a%i.service", "a,b.service", "a~.service", "a@b c.service", "a@b/c.service", "a@%i.service",
		"\u00e4.service", "a@\u00e4.service", "\xff.service", "a@\xff.service", "\u0661.service", "\uff41.service", "a\uff0eservice", "a\x00.service", "a@\x00.service",
		strings.Repeat("x", 100000), strings.Repeat("x", 100000) + ".service", strings.Repeat(".service", 1000), strings.Repeat("@", 1000) + ".service", strings.Repeat(".", 61), "a" + strings.Repeat("@", 40),
	} {
		if got := tell(s); got != (told{}) {
			t.Errorf("%.60q: %v", s, got)
		}
	}
}

func TestNamesAtTheLimit(t *testing.T) { // P4.1
	for kind, ending := range endingsByKind {
		for _, head := range []string{"", "p@"} {
			for length := 55; length <= 65; length++ {
				s := head + strings.Repeat("x", length-len(head)-len(ending)) + ending
				want := 0
				if length <= 60 {
					want = kind
				}
				if Is(s) != (want != 0) || Kind(s) != want {
					t.Errorf("%d bytes: %q: %v, %d", length, s, Is(s), Kind(s))
				}
			}
		}
	}
}

func TestNamesByEachByte(t *testing.T) { // P4.1
	for b := range 256 {
		s := string([]byte{byte(b)})
		for _, whole := range []string{s + ".service", "a" + s + ".service", s + "a@.service", "a@" + s + ".service", "a@b" + s + "c.service", "a@b" + s + "service", "a.servic" + s, "a.service" + s} {
			if got, want := tell(whole), wantedTold(whole); got != want {
				t.Errorf("%q: %v, want %v", whole, got, want)
			}
		}
	}
}

func TestNamesAgainstPattern(t *testing.T) { // P4.1
	pieces := []string{"a", "@", ".", "/", "\\", "service", ".socket", ".mount"}
	allOf(pieces, 5, func(s string) {
		if got, want := tell(s), wantedTold(s); got != want {
			t.Fatalf("%q: %v, want %v", s, got, want)
		}
	})
	allOf(pieces[:5], 3, func(instance string) {
		for _, s := range []string{"a@.service", "a@b.service", "a.service", "@.service", ".@.target", "a@@.service", "a@.", ""} {
			got, err := With(s, instance)
			if want, wantErr := wantedWith(s, instance); got != want || err != wantErr {
				t.Fatalf("With(%q, %q): %q, %d, want %q, %d", s, instance, got, err, want, wantErr)
			}
		}
	})
}

func TestWith(t *testing.T) { // P4.1
	room := 60 - len("a@.service")
	for _, c := range []struct {
		s, instance, want string
		err               api.Errno
	}{
		{"a@.service", "b", "a@b.service", api.OK},
		{"a@.service", "", "a@.service", api.OK},
		{"a.b@.mount", "Zz09:-_.\\", "a.b@Zz09:-_.\\.mount", api.OK},
		{"a@.service", "b.socket", "a@b.socket.service", api.OK},
		{"a@.service", ".service", "a@.service.service", api.OK},
		{"a@.service", strings.Repeat("x", room), "a@" + strings.Repeat("x", room) + ".service", api.OK},
		{"a@.service", strings.Repeat("x", room+1), "", api.ErrName},
		{"a@.service", strings.Repeat("x", 100000), "", api.ErrName},
		{"a@b.service", "c", "", api.ErrName},
		{"a@b.service", "b", "", api.ErrName},
		{"a@b.service", "", "", api.ErrName},
		{"a.service", "b", "", api.ErrName},
		{"a.service", "", "", api.ErrName},
		{"@.service", "b", "", api.ErrName},
		{"a@.thing", "b", "", api.ErrName},
		{"a@", "b", "", api.ErrName},
		{"", "", "", api.ErrName},
		{"", "a@b.service", "", api.ErrName},
		{"a@.service", "@", "", api.ErrName},
		{"a@.service", "b@c", "", api.ErrName},
		{"a@.service", "b c", "", api.ErrName},
		{"a@.service", "b/c", "", api.ErrName},
		{"a@.service", "\u00e4", "", api.ErrName},
		{"a@.service", "\x00", "", api.ErrName},
	} {
		if got, err := With(c.s, c.instance); got != c.want || err != c.err {
			t.Errorf("With(%q, %.60q): %q, %d, want %q, %d", c.s, c.instance, got, err, c.want, c.err)
		}
	}
}

// wantedExpand: P4.3 by its pieces, with what stands for each.
func wantedExpand(text string, means map[string]string) (string, api.Errno) {
	var out strings.Builder
	for _, piece := range specPattern.FindAllString(text, -1) {
		if piece[0] != '%' {
			out.WriteString(piece)
			continue
		}
		meant, ok := means[piece[1:]]
		if !ok {
			return "", 42
		}
		out.WriteString(meant)
	}
	return out.String(), 0
}

var specPattern = regexp.MustCompile(`(?s)%.?|[^%]+`)

func TestExpand(t *testing.T) { // P4.3
	for _, c := range []struct {
		text, unit, want string
		err              api.Errno
	}{
		{"%p of %i", "a@b.service", "a of b", api.OK},
		{"", "a.service", "", api.OK},
		{"plain", "a.service", "plain", api.OK},
		{"\x00\xff\n", "a.service", "\x00\xff\n", api.OK},
		{"%n", "a@b.service", "a@b.service", api.OK},
		{"%n%n", "a.socket", "a.socketa.socket", api.OK},
		{"<%p>", "a.b.service", "<a.b>", api.OK},
		{"<%i>", "a.service", "<>", api.OK},
		{"<%I>", "a.service", "<>", api.OK},
		{"<%i%I>", "a@.service", "<>", api.OK},
		{"%i %I", "a@b-c\\x2dd.service", "b-c\\x2dd b/c-d", api.OK},
		{"%I", "a@\\xff.service", "\xff", api.OK},
		{"%I", "a@\\x25n.service", "%n", api.OK},
		{"%I%n", "a@\\x25.service", "%a@\\x25.service", api.OK},
		{"%%", "a.service", "%", api.OK},
		{"%%n", "a.service", "%n", api.OK},
		{"%%%n%%", "a.service", "%a.service%", api.OK},
		{"%%%%", "a.service", "%%", api.OK},
		{"%p", "a-b\\x2d.service", "a-b\\x2d", api.OK},
		{"%i", "a@b\\q.service", "b\\q", api.OK},
		{"%i", "a@.b.service", ".b", api.OK},
		{"%I", "a@b\\q.service", "", api.ErrSpec},
		{"%I", "a@.b.service", "", api.ErrSpec},
		{"%I", "a@\\x2f.service", "", api.ErrSpec},
		{"%n %I", "a@\\.service", "", api.ErrSpec},
		{"%", "a.service", "", api.ErrSpec},
		{"a%", "a.service", "", api.ErrSpec},
		{"%%%", "a.service", "", api.ErrSpec},
		{"%n%", "a.service", "", api.ErrSpec},
		{"%x%n", "a.service", "", api.ErrSpec},
		{"%N", "a.service", "", api.ErrSpec},
		{"%P", "a.service", "", api.ErrSpec},
		{"% n", "a.service", "", api.ErrSpec},
		{"%\u00e4", "a.service", "", api.ErrSpec},
		{"a", "b", "", api.ErrName},
		{"", "", "", api.ErrName},
		{"%", "b", "", api.ErrName},
		{"%x", "a@b@c.service", "", api.ErrName},
		{"%I", "a@\\q@.service", "", api.ErrName},
		{strings.Repeat("%i", 100000), "a@b.service", strings.Repeat("b", 100000), api.OK},
		{strings.Repeat("%n", 100000) + "%", "a@b.service", "", api.ErrSpec},
	} {
		if got, err := Expand(c.text, c.unit); got != c.want || err != c.err {
			t.Errorf("Expand(%.60q, %q): %.60q, %d, want %.60q, %d", c.text, c.unit, got, err, c.want, c.err)
		}
	}
}

func TestExpandByEachByte(t *testing.T) { // P4.3
	known := map[byte]string{'n': "a@b-c.service", 'p': "a", 'i': "b-c", 'I': "b/c", '%': "%"}
	for b := range 256 {
		want, ok := known[byte(b)]
		wantErr := api.Errno(0)
		if !ok {
			wantErr = 42
		} else {
			want = "<" + want + ">"
		}
		if got, err := Expand("<%"+string([]byte{byte(b)})+">", "a@b-c.service"); got != want || err != wantErr {
			t.Errorf("byte %d: %q, %d", b, got, err)
		}
	}
}

func TestExpandAgainstPattern(t *testing.T) { // P4.3
	means := map[string]map[string]string{
		"a@b-c.service": {"n": "a@b-c.service", "p": "a", "i": "b-c", "I": "b/c", "%": "%"},
		"a.service":     {"n": "a.service", "p": "a", "i": "", "I": "", "%": "%"},
		"a@\\.service":  {"n": "a@\\.service", "p": "a", "i": "\\", "%": "%"},
	}
	allOf([]string{"%", "n", "p", "i", "I", "x"}, 6, func(text string) {
		for unit, of := range means {
			got, err := Expand(text, unit)
			if want, wantErr := wantedExpand(text, of); got != want || err != wantErr {
				t.Fatalf("Expand(%q, %q): %q, %d, want %q, %d", text, unit, got, err, want, wantErr)
			}
		}
	})
}

func TestSort(t *testing.T) { // P4.4
	for _, c := range []struct{ l, want []string }{
		{nil, nil},
		{[]string{}, nil},
		{[]string{""}, []string{""}},
		{[]string{"a"}, []string{"a"}},
		{[]string{"b", "a"}, []string{"a", "b"}},
		{[]string{"a", "a", "a"}, []string{"a"}},
		{[]string{"b", "a", "b", "", "A", ""}, []string{"", "A", "a", "b"}},
		{[]string{"ab", "a", "abc", "b", "aa"}, []string{"a", "aa", "ab", "abc", "b"}},
		{[]string{"a10", "a9", "a1"}, []string{"a1", "a10", "a9"}},
		{[]string{"a-b", "a.b", "a@b", "aB", "a_b", "ab", "a\\b"}, []string{"a-b", "a.b", "a@b", "aB", "a\\b", "a_b", "ab"}},
		{[]string{"\xff", "\x80", "\u00e4", "z", "\x7f", "\x00", ""}, []string{"", "\x00", "z", "\x7f", "\x80", "\u00e4", "\xff"}},
		{[]string{"a\x00", "a", "a\xff"}, []string{"a", "a\x00", "a\xff"}},
	} {
		if got := Sort(c.l); !slices.Equal(got, c.want) {
			t.Errorf("Sort(%q): %q, want %q", c.l, got, c.want)
		}
	}
}

// ahead: whether a stands ahead of b, byte by byte, by the document's words.
func ahead(a, b string) bool {
	for i := range min(len(a), len(b)) {
		if a[i] != b[i] {
			return a[i] < b[i]
		}
	}
	return len(a) < len(b)
}

func TestSortAgainstSet(t *testing.T) { // P4.4
	r := rand.New(rand.NewSource(1))
	for range 2000 {
		l := make([]string, r.Intn(60))
		set := map[string]bool{}
		for i := range l {
			text := make([]byte, r.Intn(4))
			for j := range text {
				text[j] = []byte{0, 'a', 'b', 0x7f, 0x80, 0xff}[r.Intn(6)]
			}
			l[i] = string(text)
			set[l[i]] = true
		}
		got := Sort(l)
		if len(got) != len(set) {
			t.Fatalf("Sort(%q): %q", l, got)
		}
		for i, s := range got {
			if !set[s] || i > 0 && !ahead(got[i-1], s) {
				t.Fatalf("Sort(%q): %q", l, got)
			}
		}
	}
}

func TestSortKeepsMemoryApart(t *testing.T) { // P4.4, and what is handed in is neither changed nor kept
	room := []string{"c", "a", "b", "a", "spare", "room"}
	before := slices.Clone(room)
	first, second := Sort(room[:4]), Sort(room[:4])
	if !slices.Equal(room, before) {
		t.Fatalf("changed: %q", room)
	}
	full := first[:cap(first)]
	for i := range full {
		full[i] = "x"
	}
	if want := []string{"a", "b", "c"}; !slices.Equal(room, before) || !slices.Equal(second, want) || !slices.Equal(Sort(room[:4]), want) {
		t.Errorf("shared: %q, %q", room, second)
	}
	for _, l := range [][]string{room[:0], room[:1]} {
		_ = append(Sort(l), "x", "y")
		if !slices.Equal(room, before) {
			t.Errorf("shared: %q", room)
		}
	}
}

func FuzzNames(f *testing.F) { // P4.1, P4.3
	for _, s := range slices.Sorted(maps.Values(endingsByKind)) {
		f.Add("a"+s, "b")
		f.Add("a@"+s, "%n %p")
		f.Add("a@b-c"+s, "%i%I%%")
	}
	f.Fuzz(func(t *testing.T, s, text string) {
		of := wantedTold(s)
		if got := tell(s); got != of {
			t.Errorf("%q: %v, want %v", s, got, of)
		}
		got, err := With(s, text)
		if want, wantErr := wantedWith(s, text); got != want || err != wantErr {
			t.Errorf("With(%q, %q): %q, %d, want %q, %d", s, text, got, err, want, wantErr)
		}
		means := map[string]string{"n": s, "p": of.prefix, "i": of.instance, "%": "%"}
		if plain, err := Unescape(of.instance); err == api.OK {
			means["I"] = plain
		}
		want, wantErr := wantedExpand(text, means)
		if !of.is {
			want, wantErr = "", 40
		}
		if got, err := Expand(text, s); got != want || err != wantErr {
			t.Errorf("Expand(%q, %q): %q, %d, want %q, %d", text, s, got, err, want, wantErr)
		}
	})
}
