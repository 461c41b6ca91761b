package unitfile

import (
	"cmp"
	"math/rand"
	"slices"
	"strconv"
	"strings"
	"testing"

	"reveille/api"
	"reveille/line"
)

// told: what Parse answers.
type told struct {
	settings []api.Setting
	number   int
	err      api.Errno
}

func tell(s string) told {
	f, number, err := Parse(s)
	return told{f.Settings, number, err}
}

func same(a, b told) bool {
	return slices.Equal(a.settings, b.settings) && a.number == b.number && a.err == b.err
}

func at(number int, section, key, value string) api.Setting {
	return api.Setting{Section: section, Key: key, Value: value, Number: number}
}

func settings(l ...api.Setting) told { return told{settings: l} }

func wrong(number int, err api.Errno) told { return told{nil, number, err} }

// file: settings as `A.k=v`, parted by blanks and numbered from 1 on.
func file(s string) api.File {
	var f api.File
	for i, word := range strings.Fields(s) {
		heading, value, _ := strings.Cut(word, "=")
		section, key, _ := strings.Cut(heading, ".")
		f.Settings = append(f.Settings, at(i+1, section, key, value))
	}
	return f
}

// say: a file as file takes it, with numbers.
func say(f api.File) string {
	var words []string
	for _, s := range f.Settings {
		words = append(words, s.Section+"."+s.Key+"="+s.Value+"@"+strconv.Itoa(s.Number))
	}
	return strings.Join(words, " ")
}

// allOf: each row of up to so many pieces.
func allOf(pieces []string, most int, check func(string)) {
	var grow func(s string, left int)
	grow = func(s string, left int) {
		check(s)
		if left == 0 {
			return
		}
		for _, p := range pieces {
			grow(s+p, left-1)
		}
	}
	grow("", most)
}

// randomFile: up to so many settings of few sections, keys and values, so that many are alike.
func randomFile(r *rand.Rand, most int) api.File {
	var f api.File
	for range r.Intn(most + 1) {
		pick := func(words ...string) string { return words[r.Intn(len(words))] }
		f.Settings = append(f.Settings, at(r.Intn(9), pick("A", "B", "A ", `\`), pick("x", "y", "X", "xx"), pick("", "", "1", "2", "=", "[A]", "# z", `\a`)))
	}
	return f
}

// wantedParse: P6.1 by its words, over what line answers.
func wantedParse(s string) told {
	lines, number, err := line.Lines(s)
	if err != 0 {
		return wrong(number, err)
	}
	var out []api.Setting
	for i, l := range lines {
		if l.Kind == 1 {
			continue
		}
		ahead := slices.DeleteFunc(slices.Clone(lines[:i]), func(l api.Line) bool { return l.Kind != 1 })
		if len(ahead) == 0 {
			return wrong(l.Number, 60)
		}
		out = append(out, at(l.Number, ahead[len(ahead)-1].Key, l.Key, l.Value))
	}
	return told{settings: out}
}

func checkParse(t *testing.T, s string) {
	t.Helper()
	if got, want := tell(s), wantedParse(s); !same(got, want) {
		t.Fatalf("Parse(%.80q): %v, want %v", s, got, want)
	}
}

type row struct {
	s    string
	want told
}

func checkTable(t *testing.T, rows []row) {
	t.Helper()
	for _, c := range rows {
		if got := tell(c.s); !same(got, c.want) {
			t.Errorf("Parse(%.80q): %v, want %v", c.s, got, c.want)
		}
		checkParse(t, c.s)
	}
}

func TestParse(t *testing.T) { // P6.1
	checkTable(t, []row{
		{"", settings()},
		{"\n# a\n", settings()},
		{"[A]", settings()},
		{"[A]\n[B]\n[A]\n", settings()},
		{"[A]\nx=1", settings(at(2, "A", "x", "1"))},
		{"[Unit]\nWants=a.service\n\n[Service]\nExecStart=/bin/x -y\n", settings(at(2, "Unit", "Wants", "a.service"), at(5, "Service", "ExecStart", "/bin/x -y"))},
		{"[A]\nx=1\n[B]\nx=2\n[A]\n\ny=3", settings(at(2, "A", "x", "1"), at(4, "B", "x", "2"), at(7, "A", "y", "3"))},
		{"[A]\nx=1\nx=1\nx=\nx=2", settings(at(2, "A", "x", "1"), at(3, "A", "x", "1"), at(4, "A", "x", ""), at(5, "A", "x", "2"))},
		{"[A]\n[B]\nx=1", settings(at(3, "B", "x", "1"))},
		{"# n\n ; m\n\n[A]\nx=1", settings(at(5, "A", "x", "1"))},
		{"[A]\nx=a \\\nb\ny=c", settings(at(2, "A", "x", "a  b"), at(4, "A", "y", "c"))},
		{"[A]\nx=\\\n[B]\ny=c", settings(at(2, "A", "x", "[B]"), at(4, "A", "y", "c"))},
		{" [ A ] \n x = 1 ", settings(at(2, " A ", "x", "1"))},
		{"[ ]\nx=1", settings(at(2, " ", "x", "1"))},
		{"[a]\nx=1\n[A]\nX=2", settings(at(2, "a", "x", "1"), at(4, "A", "X", "2"))},
		{"[x=1]\nx=[A]", settings(at(2, "x=1", "x", "[A]"))},
	})
}

func TestParseRefusesWhatStandsAheadOfAllSections(t *testing.T) { // P6.1
	checkTable(t, []row{
		{"x=1", wrong(1, 60)},
		{"x=", wrong(1, 60)},
		{"\nx=1\n[A]", wrong(2, 60)},
		{"\n# [A]\nx=1\ny=2\n[A]\nx=3", wrong(3, 60)},
		{"x=\\\n[A]\ny=1", wrong(1, 60)},
		{"\n\\\nx=1\n[A]", wrong(2, 60)},
	})
}

func TestParseTellsTheErrorOfALine(t *testing.T) { // P6.1
	x := strings.Repeat("x", 400)
	checkTable(t, []row{
		{"x", wrong(1, 50)},
		{"[A]\nx", wrong(2, 50)},
		{"[A]\nx=1\n[]\n", wrong(3, 50)},
		{"[A]\n\n\\\n\nx=1", wrong(3, 50)},
		{"x=1\n[A]\ny", wrong(3, 50)}, // ahead of ErrFile, wherever it stands
		{"x=1\n[A]\n-\ny=" + x, wrong(3, 50)},
		{"x=1\n\ny=" + x, wrong(3, 51)},
		{"[A]\nx=" + x, wrong(2, 51)},
		{"[A]\nx=" + x[2:], settings(at(2, "A", "x", x[2:]))},
		{"[A]\nx=" + x[1:], wrong(2, 51)},
		{strings.Repeat("\n", 3993) + "[A]\nx=1", settings(at(3995, "A", "x", "1"))},
		{strings.Repeat("\n", 3994) + "[A]\nx=1", wrong(0, 51)},
		{strings.Repeat("\n", 3997) + "x=1", wrong(3998, 60)},
		{strings.Repeat("\n", 3998) + "x=1", wrong(0, 51)},
		{strings.Repeat("x=1\n", 1000000), wrong(0, 51)},
	})
}

func TestParseAgainstLines(t *testing.T) { // P6.1
	allOf([]string{"[A]\n", "[B]\n", "x=1\n", "x=\n", "y=2\\\n", "\n", "#\n", "-\n"}, 5, func(s string) { checkParse(t, s) })
	for b := range 256 {
		x := string([]byte{byte(b)})
		for _, frame := range []string{"?", "?x=1", "[?]\nx=1", "[A]?x=1", "[A]\nx?=1", "[A]\nx=?", "[A]\nx=1?y=2"} {
			checkParse(t, strings.ReplaceAll(frame, "?", x))
		}
	}
}

func TestParseIsNewMemory(t *testing.T) { // P6.1
	first, _, _ := Parse("[A]\nx=1\ny=2\nz=3")
	second, _, _ := Parse("[A]\nx=1\ny=2\nz=3")
	clear(first.Settings[:cap(first.Settings)])
	if got := say(second); got != "A.x=1@2 A.y=2@3 A.z=3@4" {
		t.Errorf("touched: %s", got)
	}
}

// wantedMerge: P6.2 by its words: a setting stays, if it isn't empty and none like it behind it is.
func wantedMerge(l []api.File) []api.Setting {
	var all, out []api.Setting
	for _, f := range l {
		all = append(all, f.Settings...)
	}
	for i, s := range all {
		if !slices.ContainsFunc(all[i:], func(b api.Setting) bool { return b.Value == "" && b.Section == s.Section && b.Key == s.Key }) {
			out = append(out, s)
		}
	}
	return out
}

func checkMerge(t *testing.T, l []api.File) {
	t.Helper()
	if got, want := Merge(l).Settings, wantedMerge(l); !slices.Equal(got, want) {
		t.Fatalf("Merge(%v): %v, want %v", l, got, want)
	}
}

func TestMerge(t *testing.T) { // P6.2
	for _, c := range []struct {
		l    []string
		want string
	}{
		{nil, ""},
		{[]string{""}, ""},
		{[]string{"", "", ""}, ""},
		{[]string{"S.A=1 S.A= S.A=2"}, "S.A=2@3"},
		{[]string{"S.A=1", "S.A=", "S.A=2"}, "S.A=2@1"},
		{[]string{"S.A=1", "S.A=2", "S.A="}, ""},
		{[]string{"S.A="}, ""},
		{[]string{"S.A=", "S.A=1"}, "S.A=1@1"},
		{[]string{"S.A=1", "S.A=1", "S.A=1"}, "S.A=1@1 S.A=1@1 S.A=1@1"},
		{[]string{"S.A=1 T.A=2 S.B=3", "T.A=4 S.A=5"}, "S.A=1@1 T.A=2@2 S.B=3@3 T.A=4@1 S.A=5@2"},
		{[]string{"S.A=1 T.A=2 S.B=3", "S.A="}, "T.A=2@2 S.B=3@3"},
		{[]string{"S.A=1 T.A=2 S.B=3", "", "S.A= S.A=4 T.A="}, "S.B=3@3 S.A=4@2"},
		{[]string{"S.A= S.A= S.A=1 S.A= S.A=2", "S.A=3"}, "S.A=2@5 S.A=3@1"},
		{[]string{"S.A=1 S.a=2 s.A=3", "S.A="}, "S.a=2@2 s.A=3@3"},
		{[]string{"SA.B=1 S.AB=2", "S.AB="}, "SA.B=1@1"},
		{[]string{"S.A=1 .=2 S.=3 .A=4", ".="}, "S.A=1@1 S.=3@3 .A=4@4"},
	} {
		var l []api.File
		for _, s := range c.l {
			l = append(l, file(s))
		}
		if got := say(Merge(l)); got != c.want {
			t.Errorf("Merge of %q: %s, want %s", c.l, got, c.want)
		}
		checkMerge(t, l)
	}
}

func TestMergeTakesABlankValueAsNoEmptyOne(t *testing.T) { // P6.2
	l := []api.File{{Settings: []api.Setting{at(1, "S", "A", "1"), at(2, "S", "A", " "), at(3, "S", "A", "\x00")}}}
	if got := Merge(l).Settings; !slices.Equal(got, l[0].Settings) {
		t.Errorf("%v", got)
	}
}

func TestMergeAgainstWords(t *testing.T) { // P6.2
	allOf([]string{"A.x=1 ", "A.x= ", "A.y=1 ", "A.y= ", "B.x=1 ", "B.x= ", "|"}, 5, func(s string) {
		var l []api.File
		for part := range strings.SplitSeq(s, "|") {
			l = append(l, file(part))
		}
		checkMerge(t, l)
	})
	r := rand.New(rand.NewSource(1))
	for range 5000 {
		l := make([]api.File, r.Intn(5))
		for i := range l {
			l[i] = randomFile(r, 12)
		}
		checkMerge(t, l)
	}
}

func TestMergeOfMany(t *testing.T) { // P6.2
	const n = 200000
	var one, two api.File
	for i := range n {
		one.Settings = append(one.Settings, at(i, "A", strconv.Itoa(i), "1"))
		two.Settings = append(two.Settings, at(i, "A", strconv.Itoa(i), strings.Repeat("2", i%2)))
	}
	got := Merge([]api.File{one, two}).Settings
	if len(got) != n || got[0] != one.Settings[1] || got[n/2-1] != one.Settings[n-1] || got[n/2] != two.Settings[1] || got[n-1] != two.Settings[n-1] {
		t.Errorf("%d settings", len(got))
	}
}

func TestMergeTouchesNothing(t *testing.T) { // P6.2
	backing := file("S.A=1 S.B=2 S.A= S.A=3 S.C=4").Settings
	kept := slices.Clone(backing)
	l := []api.File{{Settings: backing[:2]}, {Settings: backing[2:4]}, {}}
	spare := l[:2]
	for range 2 { // a second time: an answer that was changed is in none that comes later
		f := Merge(spare)
		if got := say(f); got != "S.B=2@2 S.A=3@4" {
			t.Errorf("%s", got)
		}
		clear(f.Settings[:cap(f.Settings)])
	}
	if !slices.Equal(backing, kept) || len(l[0].Settings) != 2 || len(l[1].Settings) != 2 || l[2].Settings != nil {
		t.Errorf("touched: %v", backing)
	}
	one := Merge([]api.File{{Settings: backing[:2]}})
	clear(backing)
	if got := say(one); got != "S.A=1@1 S.B=2@2" {
		t.Errorf("shared: %s", got)
	}
}

// found: a setting as All tells it.
type found struct {
	place int
	value string
}

func collect(f api.File, section, key string) []found {
	var out []found
	for place, value := range All(f, section, key) {
		out = append(out, found{place, value})
	}
	return out
}

// checkSettings: All and Last by their words.
func checkSettings(t *testing.T, f api.File, section, key string) {
	t.Helper()
	var want []found
	for i := range f.Settings {
		if f.Settings[i].Section == section && f.Settings[i].Key == key {
			want = append(want, found{i, f.Settings[i].Value})
		}
	}
	if got := collect(f, section, key); !slices.Equal(got, want) {
		t.Fatalf("All(%v, %q, %q): %v, want %v", f, section, key, got, want)
	}
	last, ok := Last(f, section, key)
	if ok != (len(want) > 0) || ok && last != want[len(want)-1].value || !ok && last != "" {
		t.Fatalf("Last(%v, %q, %q): %q, %v", f, section, key, last, ok)
	}
}

func TestAll(t *testing.T) { // P6.3
	f := file("A.k=1 B.k=2 A.j=5 A.k=3 A.k= A.k=3")
	for _, c := range []struct {
		section, key string
		want         []found
	}{
		{"A", "k", []found{{0, "1"}, {3, "3"}, {4, ""}, {5, "3"}}},
		{"B", "k", []found{{1, "2"}}},
		{"A", "j", []found{{2, "5"}}},
		{"B", "j", nil},
		{"a", "k", nil},
		{"A", "K", nil},
		{"", "k", nil},
		{"A", "", nil},
		{"", "", nil},
		{"k", "A", nil},
		{"A.k", "", nil},
	} {
		if got := collect(f, c.section, c.key); !slices.Equal(got, c.want) {
			t.Errorf("All of %q, %q: %v, want %v", c.section, c.key, got, c.want)
		}
		checkSettings(t, f, c.section, c.key)
	}
	checkSettings(t, file(".=1 A.= .k="), "", "")
	if All(api.File{}, "A", "k") == nil || len(collect(api.File{}, "A", "k")) != 0 {
		t.Error("All of no settings")
	}
}

func TestLast(t *testing.T) { // P6.3
	f := file("A.k=1 B.k=2 A.j=5 A.k=3 A.e=1 A.e= B.j=7")
	for _, c := range []struct {
		section, key, want string
		ok                 bool
	}{
		{"A", "k", "3", true},
		{"B", "k", "2", true},
		{"A", "j", "5", true},
		{"A", "e", "", true},
		{"B", "j", "7", true},
		{"B", "e", "", false},
		{"C", "k", "", false},
		{"", "", "", false},
	} {
		if got, ok := Last(f, c.section, c.key); got != c.want || ok != c.ok {
			t.Errorf("Last of %q, %q: %q, %v", c.section, c.key, got, ok)
		}
	}
	if got, ok := Last(api.File{}, "A", "k"); got != "" || ok {
		t.Errorf("Last of no settings: %q, %v", got, ok)
	}
}

// checkText: Sections and Print by their words.
func checkText(t *testing.T, f api.File) {
	t.Helper()
	var names []string
	want := ""
	for _, s := range f.Settings {
		if slices.Contains(names, s.Section) {
			continue
		}
		names = append(names, s.Section)
		want += "[" + s.Section + "]\n"
		for _, b := range f.Settings {
			if b.Section == s.Section {
				want += b.Key + "=" + b.Value + "\n"
			}
		}
	}
	if got := slices.Collect(Sections(f)); !slices.Equal(got, names) {
		t.Fatalf("Sections(%v): %q, want %q", f, got, names)
	}
	if got := Print(f); got != want {
		t.Fatalf("Print(%v): %q, want %q", f, got, want)
	}
}

func TestSectionsAndPrint(t *testing.T) { // P6.3
	for _, c := range []struct {
		f        api.File
		sections []string
		text     string
	}{
		{api.File{}, nil, ""},
		{api.File{Settings: []api.Setting{}}, nil, ""},
		{file("A.k=1"), []string{"A"}, "[A]\nk=1\n"},
		{file("A.k=1 B.k=2 A.j=5 A.k=3"), []string{"A", "B"}, "[A]\nk=1\nj=5\nk=3\n[B]\nk=2\n"},
		{file("B.k=1 A.k=2 B.k= C.k=3 A.k=2"), []string{"B", "A", "C"}, "[B]\nk=1\nk=\n[A]\nk=2\nk=2\n[C]\nk=3\n"},
		{file("a.k=1 A.k=2"), []string{"a", "A"}, "[a]\nk=1\n[A]\nk=2\n"},
		{file(".k=1 A.= .j=2"), []string{"", "A"}, "[]\nk=1\nj=2\n[A]\n=\n"},
		{api.File{Settings: []api.Setting{at(0, "a]\n", "b c", " d\n\\")}}, []string{"a]\n"}, "[a]\n]\nb c= d\n\\\n"},
		{api.File{Settings: []api.Setting{at(-1, "\xff", "\x00", "\"%s")}}, []string{"\xff"}, "[\xff]\n\x00=\"%s\n"},
	} {
		if got := slices.Collect(Sections(c.f)); !slices.Equal(got, c.sections) {
			t.Errorf("Sections(%v): %q, want %q", c.f, got, c.sections)
		}
		if got := Print(c.f); got != c.text {
			t.Errorf("Print(%v): %q, want %q", c.f, got, c.text)
		}
		checkText(t, c.f)
	}
	if Sections(api.File{}) == nil {
		t.Error("Sections of no settings")
	}
}

func TestReadingAgainstWords(t *testing.T) { // P6.3
	allOf([]string{"A.x=1 ", "A.x= ", "A.y=2 ", "B.x=3 ", "C.y=4 "}, 5, func(s string) {
		f := file(s)
		checkText(t, f)
		checkSettings(t, f, "A", "x")
		checkSettings(t, f, "C", "y")
	})
	r := rand.New(rand.NewSource(2))
	for range 5000 {
		f := randomFile(r, 20)
		checkText(t, f)
		for _, s := range f.Settings {
			checkSettings(t, f, s.Section, s.Key)
		}
	}
}

func TestReadingOfMany(t *testing.T) { // P6.3
	const n = 200000
	var f api.File
	for i := range n {
		f.Settings = append(f.Settings, at(i, strconv.Itoa(i), "k", "v"))
	}
	count := 0
	for name := range Sections(f) {
		if name != strconv.Itoa(count) {
			t.Fatalf("section %d: %s", count, name)
		}
		count++
	}
	text := Print(f)
	if count != n || !strings.HasPrefix(text, "[0]\nk=v\n[1]\nk=v\n") || !strings.HasSuffix(text, "[199999]\nk=v\n") {
		t.Errorf("%d sections", count)
	}
}

func TestAllIsLeftAndGoneThroughAgain(t *testing.T) { // P6.3
	all := All(file("A.k=1 B.k=2 A.k=3 A.k=4"), "A", "k")
	want := []found{{0, "1"}, {2, "3"}, {3, "4"}}
	through := func(most int) []found {
		var out []found
		for place, value := range all {
			out = append(out, found{place, value})
			if len(out) == most {
				break
			}
		}
		return out
	}
	for most := 1; most <= 3; most++ {
		if got := through(most); !slices.Equal(got, want[:most]) {
			t.Errorf("left behind %d: %v", most, got)
		}
	}
	var outer []found
	for place, value := range all {
		outer = append(outer, found{place, value})
		if inner := through(9); !slices.Equal(inner, want) {
			t.Errorf("within: %v", inner)
		}
	}
	if !slices.Equal(outer, want) {
		t.Errorf("without: %v", outer)
	}
}

func TestSectionsIsLeftAndGoneThroughAgain(t *testing.T) { // P6.3
	sections := Sections(file("A.k=1 B.k=2 A.k=3 C.k=4"))
	want := []string{"A", "B", "C"}
	for most := 1; most <= 3; most++ {
		var got []string
		for name := range sections {
			got = append(got, name)
			if len(got) == most {
				break
			}
		}
		if !slices.Equal(got, want[:most]) {
			t.Errorf("left behind %d: %v", most, got)
		}
	}
	var outer []string
	for name := range sections {
		outer = append(outer, name)
		if inner := slices.Collect(sections); !slices.Equal(inner, want) {
			t.Errorf("within: %v", inner)
		}
	}
	if !slices.Equal(outer, want) {
		t.Errorf("without: %v", outer)
	}
}

func TestPartsIsLeft(t *testing.T) { // P6.3
	for name := range parts(file("A.k=1 B.k=2").Settings) {
		if name != "A" {
			t.Errorf("%s", name)
		}
		break
	}
}

func TestReadingKeepsAndTouchesNothing(t *testing.T) { // P6.3
	backing := file("A.k=1 B.k=2 A.k=3 C.k=4").Settings
	kept := slices.Clone(backing)
	f := api.File{Settings: backing[:3]}
	all, sections := All(f, "A", "k"), Sections(f)
	text := Print(f)
	Last(f, "A", "k")
	for range all {
	}
	for range sections {
	}
	if !slices.Equal(backing, kept) {
		t.Errorf("touched: %v", backing)
	}
	clear(backing)
	var got []string
	for _, value := range all {
		got = append(got, value)
	}
	got = slices.AppendSeq(got, sections)
	if !slices.Equal(got, []string{"1", "3", "A", "B"}) || text != "[A]\nk=1\nk=3\n[B]\nk=2\n" {
		t.Errorf("kept: %q, %q", got, text)
	}
}

// bySection: the settings of f, section by section, without their numbers.
func bySection(f api.File) []api.Setting {
	var names []string
	for _, s := range f.Settings {
		if !slices.Contains(names, s.Section) {
			names = append(names, s.Section)
		}
	}
	out := slices.Clone(f.Settings)
	for i := range out {
		out[i].Number = 0
	}
	slices.SortStableFunc(out, func(a, b api.Setting) int {
		return cmp.Compare(slices.Index(names, a.Section), slices.Index(names, b.Section))
	})
	return out
}

func checkParseOfPrint(t *testing.T, f api.File) {
	t.Helper()
	text := Print(f)
	g, number, err := Parse(text)
	if err != api.OK || number != 0 {
		t.Fatalf("Parse(%q): line %d, error %d", text, number, err)
	}
	want := bySection(f)
	for i, s := range g.Settings {
		if i == len(want) || at(0, s.Section, s.Key, s.Value) != want[i] {
			t.Fatalf("Parse(%q): %v, want %v", text, g, want)
		}
		if got := strings.Split(text, "\n")[s.Number-1]; got != s.Key+"="+s.Value {
			t.Fatalf("Parse(%q): line %d is %q", text, s.Number, got)
		}
	}
	if len(g.Settings) != len(want) || Print(g) != text {
		t.Fatalf("Parse(%q): %v, want %v", text, g, want)
	}
}

// isPrintable: whether P6.4 speaks of f: its values and lines, and the length of its text.
func isPrintable(f api.File) bool {
	for _, s := range f.Settings {
		if strings.Trim(s.Value, " \t") != s.Value || strings.Contains(s.Value, "\n") || strings.HasSuffix(s.Value, `\`) {
			return false
		}
		if len(s.Section)+2 > 400 || len(s.Key)+1+len(s.Value) > 400 {
			return false
		}
	}
	return len(Print(f)) <= 4000
}

func TestParseOfPrint(t *testing.T) { // P6.4
	x := strings.Repeat("x", 400)
	for _, f := range []api.File{
		{},
		file("A.k=1"),
		file("A.k=1 B.k=2 A.j= A.k=1 B.k=\"\""),
		file("A.k==1 A.k=# A.k=; A.k=[B] A.k=\\a A.k=\\\\a"),
		{Settings: []api.Setting{at(0, " A ", "k", "a  b\tc"), at(0, `\`, "9", "\r"), at(0, "#", "Z", "\x00\xff\u00a0"), at(0, "=", "k", "\v")}},
		{Settings: []api.Setting{at(0, x[2:], x[:200], x[201:])}},
		{Settings: []api.Setting{at(0, "A", "k", x[2:]), at(0, "A", x[1:], "")}},
	} {
		checkParseOfPrint(t, f)
	}
	r := rand.New(rand.NewSource(3))
	for range 5000 {
		f := randomFile(r, 20)
		checkParseOfPrint(t, f)
		checkParseOfPrint(t, Merge([]api.File{f, randomFile(r, 5)}))
	}
}

func TestParseOfPrintOfEachByte(t *testing.T) { // P6.4
	for b := range 256 {
		x := string([]byte{byte(b)})
		for _, value := range []string{x, "a" + x, x + "a", "a" + x + "b", "'" + x + "'"} {
			f := api.File{Settings: []api.Setting{at(1, "A", "k", "1"), at(2, "A", "k", value), at(3, "A", "j", "2")}}
			if isPrintable(f) {
				checkParseOfPrint(t, f)
			}
		}
		f := api.File{Settings: []api.Setting{at(1, x, "k", "1")}}
		if b >= 32 && x != "[" && x != "]" {
			checkParseOfPrint(t, f)
		}
	}
}

func FuzzFile(f *testing.F) { // P6.1, P6.2, P6.3, P6.4
	for _, s := range []string{"", "[A]\nb = c d \n[B]\nx=\n[A]\nb=", "a=b", "[A]\nx=1\\\n# c\n[ ]\ny=", "[A]\nx", "[A]\nx=\\a\\ \n"} {
		f.Add(s, s)
	}
	f.Fuzz(func(t *testing.T, s, u string) {
		checkParse(t, s)
		one, _, _ := Parse(s)
		two, _, _ := Parse(u)
		l := []api.File{one, two}
		checkMerge(t, l)
		merged := Merge(l)
		for _, file := range []api.File{one, merged} {
			checkText(t, file)
			for _, s := range file.Settings {
				checkSettings(t, file, s.Section, s.Key)
			}
			if isPrintable(file) {
				checkParseOfPrint(t, file)
			}
		}
	})
}
