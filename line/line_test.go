package line

import (
	"math/rand"
	"regexp"
	"slices"
	"strings"
	"testing"

	"reveille/api"
)

// told: what Lines answers.
type told struct {
	lines  []api.Line
	number int
	err    api.Errno
}

func tell(s string) told {
	lines, number, err := Lines(s)
	return told{lines, number, err}
}

func same(a, b told) bool {
	return slices.Equal(a.lines, b.lines) && a.number == b.number && a.err == b.err
}

func section(number int, name string) api.Line { return api.Line{Kind: 1, Key: name, Number: number} }

func setting(number int, key, value string) api.Line {
	return api.Line{Kind: 2, Key: key, Value: value, Number: number}
}

func lines(l ...api.Line) told { return told{lines: l} }

func errLine(number int) told { return told{nil, number, 50} }

func errLong(number int) told { return told{nil, number, 51} }

// allOf: each row of up to so many pieces.
func allOf(pieces []string, most int, check func(string)) {
	var grow func(s string, left int)
	grow = func(s string, left int) {
		check(s)
		if left == 0 {
			return
		}
		for _, p := range pieces {
			grow(s+p, left-1)
		}
	}
	grow("", most)
}

var (
	leftOutPattern = regexp.MustCompile(`\A[ \t]*([#;](?s:.*))?\z`)
	sectionPattern = regexp.MustCompile(`\A[ \t]*\[([^\[\]\x00-\x1f]+)\][ \t]*\z`)
	settingPattern = regexp.MustCompile(`(?s)\A[ \t]*([A-Za-z0-9]+)[ \t]*=[ \t]*(.*?)[ \t]*\z`)
)

// wantedLines: P5.1 by patterns, over a list of all lines of s.
func wantedLines(s string) told {
	if len(s) > 4000 {
		return errLong(0)
	}
	var out []api.Line
	parts := strings.Split(s, "\n")
	for i := 0; i < len(parts); {
		number, text := i+1, parts[i]
		i++
		if leftOutPattern.MatchString(text) {
			continue
		}
		for strings.HasSuffix(text, `\`) {
			text = text[:len(text)-1] + " "
			if i == len(parts) {
				break
			}
			text += parts[i]
			i++
		}
		if len(text) > 400 {
			return errLong(number)
		}
		if m := sectionPattern.FindStringSubmatch(text); m != nil {
			out = append(out, section(number, m[1]))
		} else if m := settingPattern.FindStringSubmatch(text); m != nil {
			out = append(out, setting(number, m[1], m[2]))
		} else {
			return errLine(number)
		}
	}
	return told{lines: out}
}

func checkLines(t *testing.T, s string) {
	t.Helper()
	got, want := tell(s), wantedLines(s)
	if !same(got, want) {
		t.Fatalf("Lines(%.80q): %v, want %v", s, got, want)
	}
	if all := slices.Collect(All(s)); !slices.Equal(all, want.lines) {
		t.Fatalf("All(%.80q): %v, want %v", s, all, want.lines)
	}
}

func checkTable(t *testing.T, rows []row) {
	t.Helper()
	for _, c := range rows {
		if got := tell(c.s); !same(got, c.want) {
			t.Errorf("Lines(%.80q): %v, want %v", c.s, got, c.want)
		}
		checkLines(t, c.s)
	}
}

type row struct {
	s    string
	want told
}

func TestLines(t *testing.T) { // P5.1
	checkTable(t, []row{
		{"", lines()},
		{"\n", lines()},
		{"[A]", lines(section(1, "A"))},
		{"a=b", lines(setting(1, "a", "b"))},
		{"[Unit]\nWants=a.service\n\n[Service]\nExecStart=/bin/x -y\n", lines(section(1, "Unit"), setting(2, "Wants", "a.service"), section(4, "Service"), setting(5, "ExecStart", "/bin/x -y"))},
		{"a=1\na=1\n[A]\n[A]", lines(setting(1, "a", "1"), setting(2, "a", "1"), section(3, "A"), section(4, "A"))},
		{"\n\n\na=b\n\n", lines(setting(4, "a", "b"))},
	})
}

func TestLinesLeftOut(t *testing.T) { // P5.1
	checkTable(t, []row{
		{" ", lines()},
		{"\t \t", lines()},
		{"#", lines()},
		{";", lines()},
		{" \t# x", lines()},
		{"\t ; a=b", lines()},
		{"#a=b\n;[A]\n \t\nc=d", lines(setting(4, "c", "d"))},
		{"# a\\\nb=c", lines(setting(2, "b", "c"))},
		{"; a\\\n# b\\\nb=c", lines(setting(3, "b", "c"))},
		{"#\\\n", lines()},
		{"a=#b", lines(setting(1, "a", "#b"))},
		{"a=b ; c", lines(setting(1, "a", "b ; c"))},
		{"[#]", lines(section(1, "#"))},
		{"\r", errLine(1)},
		{"\v# x", errLine(1)},
		{"\x00", errLine(1)},
		{"\u00a0", errLine(1)},
		{"//", errLine(1)},
	})
}

func TestLinesGoOn(t *testing.T) { // P5.1
	checkTable(t, []row{
		{"ExecStart=a \\\nb", lines(setting(1, "ExecStart", "a  b"))},
		{"a=b\\", lines(setting(1, "a", "b"))},
		{"a=b\\\n", lines(setting(1, "a", "b"))},
		{"a=b\\\n\nc=d", lines(setting(1, "a", "b"), setting(3, "c", "d"))},
		{"a=b\\\n \t\nc=d", lines(setting(1, "a", "b"), setting(3, "c", "d"))},
		{"a=b\\\nc=d", lines(setting(1, "a", "b c=d"))},
		{"a=b\\\n\tc", lines(setting(1, "a", "b \tc"))},
		{"a=b\t\\\nc", lines(setting(1, "a", "b\t c"))},
		{"a=b\\\n\\\n\\\nc\nd=e", lines(setting(1, "a", "b   c"), setting(5, "d", "e"))},
		{"a=b\\\nc\\\nd\\", lines(setting(1, "a", "b c d"))},
		{"a=b\\\\\nc", lines(setting(1, "a", `b\ c`))},
		{"a=\\\n# b", lines(setting(1, "a", "# b"))},
		{"a=\\\n; b\\\n# c\nd=e", lines(setting(1, "a", "; b # c"), setting(4, "d", "e"))},
		{"a=\\\n[A]\n[B]", lines(setting(1, "a", "[A]"), section(3, "B"))},
		{"a\\\n=\\\nb", lines(setting(1, "a", "b"))},
		{"\\\na=b", lines(setting(1, "a", "b"))},
		{" \t\\\n\\\na=b\n[A]", lines(setting(1, "a", "b"), section(4, "A"))},
		{"\\\n[A]", lines(section(1, "A"))},
		{"[a\\\nb]", lines(section(1, "a b"))},
		{"[A]\\\n", lines(section(1, "A"))},
		{"[\\\n]", lines(section(1, " "))},
		{"a=b\\ \nc=d", lines(setting(1, "a", `b\`), setting(2, "c", "d"))},
		{"a=b\\\t", lines(setting(1, "a", `b\`))},
		{"a=b\\\r\nc=d", lines(setting(1, "a", "b\\\r"), setting(2, "c", "d"))},
		{"a=b\\c", lines(setting(1, "a", `b\c`))},
		{"\\", errLine(1)},
		{"\\\n", errLine(1)},
		{" \\\n\t\\\n ", errLine(1)},
		{"\n\\\n\na=b", errLine(2)},
		{"\n\n\\\n# a", errLine(3)},
		{"\\\n;", errLine(1)},
		{"a\\\nb=c", errLine(1)},
		{"a\\\nb", errLine(1)},
		{"[A]\\\na=b", errLine(1)},
		{"[A\\\n]\\\n]", errLine(1)},
		{"a=b\\\nc\nd", errLine(3)},
	})
}

func TestSections(t *testing.T) { // P5.1
	checkTable(t, []row{
		{" \t[A]\t ", lines(section(1, "A"))},
		{"[ ]", lines(section(1, " "))},
		{"[ x y ]", lines(section(1, " x y "))},
		{"[a=b]", lines(section(1, "a=b"))},
		{"[\\]", lines(section(1, `\`))},
		{"[\x7f\x80\xff]", lines(section(1, "\x7f\x80\xff"))},
		{"[\u00e4\u2028]", lines(section(1, "\u00e4\u2028"))},
		{"[", errLine(1)},
		{"]", errLine(1)},
		{"[]", errLine(1)},
		{"[A", errLine(1)},
		{"A]", errLine(1)},
		{"[[]", errLine(1)},
		{"[]]", errLine(1)},
		{"[[A]]", errLine(1)},
		{"[A][B]", errLine(1)},
		{"[A]x", errLine(1)},
		{"[A] x", errLine(1)},
		{"[A]=b", errLine(1)},
		{"[A] # b", errLine(1)},
		{"[A]\r", errLine(1)},
		{"[a\tb]", errLine(1)},
		{"[\x1f]", errLine(1)},
		{"[\x00]", errLine(1)},
		{"[a\nb]", errLine(1)},
		{"x[A]", errLine(1)},
	})
}

func TestSettings(t *testing.T) { // P5.1
	checkTable(t, []row{
		{" \ta \t= \tb c\t ", lines(setting(1, "a", "b c"))},
		{"azAZ09=x", lines(setting(1, "azAZ09", "x"))},
		{"0=x", lines(setting(1, "0", "x"))},
		{"a=", lines(setting(1, "a", ""))},
		{"a =\t ", lines(setting(1, "a", ""))},
		{"a==b", lines(setting(1, "a", "=b"))},
		{"a = = b=c = ", lines(setting(1, "a", "= b=c ="))},
		{"a=[b]", lines(setting(1, "a", "[b]"))},
		{"a=b  \t c", lines(setting(1, "a", "b  \t c"))},
		{"a=\r", lines(setting(1, "a", "\r"))},
		{"a=\"b \"", lines(setting(1, "a", "\"b \""))},
		{"a=\x00\x80\xff\u00a0", lines(setting(1, "a", "\x00\x80\xff\u00a0"))},
		{"a", errLine(1)},
		{"a b", errLine(1)},
		{"=", errLine(1)},
		{"=b", errLine(1)},
		{" = b", errLine(1)},
		{"==", errLine(1)},
		{"a b=c", errLine(1)},
		{"a\tb=c", errLine(1)},
		{"a-b=c", errLine(1)},
		{"a_b=c", errLine(1)},
		{"a.b=c", errLine(1)},
		{"a\r=c", errLine(1)},
		{"\va=c", errLine(1)},
		{"\u00e4=c", errLine(1)},
		{"\u0661=c", errLine(1)},
		{"\xff=c", errLine(1)},
		{"[a=c", errLine(1)},
		{"a:b", errLine(1)},
		{"\ufeffa=b", errLine(1)},
	})
}

func TestLinesByEachByte(t *testing.T) { // P5.1
	for b := range 256 {
		x := string([]byte{byte(b)})
		for _, frame := range []string{"?", "?a=b", "a?=b", "a?b=c", "a=?", "a=b?c", "a=b?", "?[A]", "[?]", "[a?b]", "[A]?", "?\\\na=b", "a=\\\n?b\nc=d"} {
			checkLines(t, strings.ReplaceAll(frame, "?", x))
		}
	}
}

func TestFirstErrorIsTold(t *testing.T) { // P5.1
	long := strings.Repeat("x", 401)
	checkTable(t, []row{
		{"a=b\n[A]\nc", errLine(3)},
		{"a=b\nc\n" + long, errLine(2)},
		{"a=b\n" + long + "\nc", errLong(2)},
		{"a=b\n" + long, errLong(2)},
		{"a=" + long + "\n-\n", errLong(1)},
		{"-\na=" + long, errLine(1)},
		{"\n-\n-", errLine(2)},
	})
}

func TestLineLimit(t *testing.T) { // P5.1
	x := func(n int) string { return strings.Repeat("x", n) }
	blank := func(n int) string { return strings.Repeat(" ", n) }
	checkTable(t, []row{
		{"a=" + x(398), lines(setting(1, "a", x(398)))},
		{"a=" + x(399), errLong(1)},
		{"[" + x(398) + "]", lines(section(1, x(398)))},
		{"\n[" + x(399) + "]", errLong(2)},
		{"\na=b" + blank(397), lines(setting(2, "a", "b"))},
		{"\na=b" + blank(398), errLong(2)},
		{blank(397) + "a=b", lines(setting(1, "a", "b"))},
		{blank(398) + "a=b", errLong(1)},
		{x(400), errLine(1)},
		{x(401), errLong(1)},
		{"#" + x(3999), lines()},
		{" ;" + x(400) + "\na=b", lines(setting(2, "a", "b"))},
		{blank(401), lines()},
		{"a=" + x(300) + "\\\n" + x(97), lines(setting(1, "a", x(300)+" "+x(97)))},
		{"a=" + x(300) + "\\\n" + x(98), errLong(1)},
		{"a=" + x(397) + "\\", lines(setting(1, "a", x(397)))},
		{"a=" + x(398) + "\\", errLong(1)},
		{"a=" + x(397) + "\\\n", lines(setting(1, "a", x(397)))},
		{"a=" + x(398) + "\\\n", errLong(1)},
		{"\na=" + x(100) + "\\\n" + x(100) + "\\\n" + x(196) + "\nb=c", lines(setting(2, "a", x(100)+" "+x(100)+" "+x(196)), setting(5, "b", "c"))},
		{"\na=" + x(100) + "\\\n" + x(100) + "\\\n" + x(197) + "\nb=c", errLong(2)},
		{strings.Repeat("\\\n", 400), errLine(1)},
		{strings.Repeat("\\\n", 401), errLong(1)},
		{"a=" + strings.Repeat("\\\n", 398), lines(setting(1, "a", ""))},
		{"a=" + strings.Repeat("\\\n", 399), errLong(1)},
	})
}

func TestFileLimit(t *testing.T) { // P5.1
	for _, piece := range []string{"\n", "#", " ", "a=b\n", "\\\n", "x", "\xff", "[A]\n"} {
		for n := 3997; n <= 4003; n++ {
			s := strings.Repeat(piece, 5000)[:n]
			if got := tell(s); n > 4000 && !same(got, errLong(0)) || n <= 4000 && got.err == api.ErrLong && got.number == 0 {
				t.Errorf("%d bytes of %q: %v", n, piece, got)
			}
			checkLines(t, s)
		}
	}
	checkTable(t, []row{
		{strings.Repeat("\n", 3997) + "a=b", lines(setting(3998, "a", "b"))},
		{strings.Repeat("\n", 3998) + "a=b", errLong(0)},
		{strings.Repeat("\n", 3999) + "x", errLine(4000)},
		{strings.Repeat("-", 4001), errLong(0)},
		{strings.Repeat("a=b\n", 1000000), errLong(0)},
	})
	if got := tell(strings.Repeat("a=b\n", 1000)); len(got.lines) != 1000 || got.lines[999] != setting(1000, "a", "b") {
		t.Errorf("%d lines", len(got.lines))
	}
}

func TestLinesAgainstPatterns(t *testing.T) { // P5.1, P5.2
	pieces := []string{"a", "=", " ", "\t", "\n", "\\", "\\\n", "#", ";", "[", "]", "\x01"}
	allOf(pieces, 5, func(s string) { checkLines(t, s) })
	pieces = append(pieces, "a=b\n", "[A]\n", "c = d \\\n", "\xff", "\r", "\n\n", strings.Repeat("x", 99), strings.Repeat(" ", 150))
	r := rand.New(rand.NewSource(1))
	for range 50000 {
		var s strings.Builder
		s.WriteString([]string{"", "a=", "[", "k=v\n"}[r.Intn(4)])
		for range r.Intn(30) {
			s.WriteString(pieces[r.Intn(len(pieces))])
		}
		checkLines(t, s.String())
	}
}

func FuzzLines(f *testing.F) { // P5.1, P5.2
	for _, s := range []string{"", "[A]\nb = c d \n", "a=b\\\n# c", " \t\n; y", "\\", "[a\x01]", "a=" + strings.Repeat("x", 399)} {
		f.Add(s)
	}
	f.Fuzz(func(t *testing.T, s string) { checkLines(t, s) })
}

func TestAll(t *testing.T) { // P5.2
	const s = "[A]\n# x\na=1\\\n2\nb=\n"
	want := []api.Line{section(1, "A"), setting(3, "a", "1 2"), setting(5, "b", "")}
	if got := slices.Collect(All(s)); !slices.Equal(got, want) {
		t.Errorf("All(%q): %v, want %v", s, got, want)
	}
}

func TestAllGivesNoneAtAnError(t *testing.T) { // P5.2
	for _, s := range []string{"", "x", "a=1\nb", "a=1\nb=2\n" + strings.Repeat("x", 401), strings.Repeat("a=b\n", 1001)} {
		all := All(s)
		if all == nil {
			t.Fatalf("All(%.60q) is nil", s)
		}
		for l := range all {
			t.Errorf("All(%.60q): %v", s, l)
		}
	}
}

func TestAllIsLeftAndGoneThroughAgain(t *testing.T) { // P5.2
	want := []api.Line{section(1, "A"), setting(2, "a", "1"), setting(3, "b", "2")}
	all := All("[A]\na=1\nb=2")
	for most := 1; most <= 3; most++ {
		var got []api.Line
		for l := range all {
			got = append(got, l)
			if len(got) == most {
				break
			}
		}
		if !slices.Equal(got, want[:most]) {
			t.Errorf("left behind %d: %v", most, got)
		}
	}
	var outer []api.Line
	for l := range all {
		outer = append(outer, l)
		if inner := slices.Collect(all); !slices.Equal(inner, want) {
			t.Errorf("within: %v", inner)
		}
	}
	if !slices.Equal(outer, want) {
		t.Errorf("without: %v", outer)
	}
}

func TestWholeIsLeft(t *testing.T) { // P5.1: the error that is told first is the last one looked for
	for s, want := range map[string]int{"a\nb\nc": 1, "a\\": 1, "#\na\\\n\\\nb\nc": 2} {
		for number := range whole(s) {
			if number != want {
				t.Errorf("%q: line %d", s, number)
			}
			break
		}
	}
}

func TestLinesAreNewMemory(t *testing.T) { // P5.1
	const s = "[A]\na=1\nb=2"
	want := []api.Line{section(1, "A"), setting(2, "a", "1"), setting(3, "b", "2")}
	first, _, _ := Lines(s)
	second, _, _ := Lines(s)
	all := All(s)
	clear(first[:cap(first)])
	if !slices.Equal(second, want) || !slices.Equal(slices.Collect(all), want) {
		t.Errorf("touched: %v, %v", second, slices.Collect(all))
	}
}
