package cgroup

import (
	"fmt"
	"math"
	"math/rand"
	"slices"
	"strings"
	"testing"

	"reveille/api"
)

// pair: what All gives at once.
type pair struct {
	name string
	list []int
}

func state(g *Groups) []pair {
	var out []pair
	for name, list := range g.All() {
		out = append(out, pair{name, list})
	}
	return out
}

// show: groups as text: `a[2 3] b[]`.
func show(l []pair) string {
	var words []string
	for _, p := range l {
		words = append(words, fmt.Sprint(p.name, p.list))
	}
	return strings.Join(words, " ")
}

func say(g *Groups) string { return show(state(g)) }

// drain: what Emptied tells until it tells nothing more, as text.
func drain(t *testing.T, g *Groups) string {
	t.Helper()
	var names []string
	for {
		name, ok := g.Emptied()
		if !ok {
			if name != "" {
				t.Fatalf("Emptied: %q, false", name)
			}
			return strings.Join(names, " ")
		}
		names = append(names, name)
	}
}

// call: of groups: its word, its number, its text.
type call struct {
	word string
	pid  int
	name string
}

// reply: what a call answered; what it has no result for is zero.
type reply struct {
	err  api.Errno
	yes  bool
	name string
}

func run(g *Groups, c call) reply {
	var r reply
	switch c.word {
	case "make":
		r.err = g.Make(c.name)
	case "remove":
		r.err = g.Remove(c.name)
	case "put":
		r.err = g.Put(c.pid, c.name)
	case "gone":
		r.yes = g.Gone(c.pid)
	case "of":
		r.name, r.yes = g.Of(c.pid)
	case "emptied":
		r.name, r.yes = g.Emptied()
	}
	return r
}

// model: groups by the document's words: names, pairs of a member and its group, notes.
type model struct {
	names []string
	pids  []int
	of    []string
	notes []string
}

func (m *model) there(name string) bool { return slices.Contains(m.names, name) }

func (m *model) members(name string) []int {
	var l []int
	for i, pid := range m.pids {
		if m.of[i] == name {
			l = append(l, pid)
		}
	}
	slices.Sort(l)
	return l
}

func (m *model) state() []pair {
	names := slices.Clone(m.names)
	slices.Sort(names)
	var out []pair
	for _, name := range names {
		out = append(out, pair{name, m.members(name)})
	}
	return out
}

func (m *model) remove(name string) reply {
	if !m.there(name) {
		return reply{err: 90}
	}
	if len(m.members(name)) > 0 {
		return reply{err: 91}
	}
	it := func(x string) bool { return x == name }
	m.names = slices.DeleteFunc(m.names, it)
	m.notes = slices.DeleteFunc(m.notes, it)
	return reply{}
}

func (m *model) gone(pid int) reply {
	i := slices.Index(m.pids, pid)
	if i < 0 {
		return reply{}
	}
	name := m.of[i]
	m.pids = slices.Delete(m.pids, i, i+1)
	m.of = slices.Delete(m.of, i, i+1)
	if len(m.members(name)) == 0 && !slices.Contains(m.notes, name) {
		m.notes = append(m.notes, name)
	}
	return reply{yes: true}
}

func (m *model) put(pid int, name string) reply {
	if !m.there(name) || pid < 2 {
		return reply{err: 90}
	}
	if i := slices.Index(m.pids, pid); i >= 0 && m.of[i] == name {
		return reply{}
	}
	m.gone(pid)
	m.pids = append(m.pids, pid)
	m.of = append(m.of, name)
	return reply{}
}

func (m *model) emptied() reply {
	for i, name := range m.notes {
		if len(m.members(name)) == 0 {
			m.notes = m.notes[i+1:]
			return reply{name: name, yes: true}
		}
	}
	m.notes = nil
	return reply{}
}

func (m *model) run(c call) reply {
	switch c.word {
	case "make":
		if c.name == "" {
			return reply{err: 90}
		}
		if m.there(c.name) {
			return reply{err: 91}
		}
		m.names = append(m.names, c.name)
	case "remove":
		return m.remove(c.name)
	case "put":
		return m.put(c.pid, c.name)
	case "gone":
		return m.gone(c.pid)
	case "of":
		if i := slices.Index(m.pids, c.pid); i >= 0 {
			return reply{name: m.of[i], yes: true}
		}
	case "emptied":
		return m.emptied()
	}
	return reply{}
}

func samePairs(a, b []pair) bool {
	return slices.EqualFunc(a, b, func(x, y pair) bool { return x.name == y.name && slices.Equal(x.list, y.list) })
}

// check: that groups hold what their model does: the same from All, from Members and from Of.
func check(t *testing.T, g *Groups, m *model, said any) {
	t.Helper()
	if got, want := state(g), m.state(); !samePairs(got, want) {
		t.Fatalf("%v: the groups are\n%s, wanted\n%s", said, show(got), show(want))
	}
	for _, name := range append(slices.Clone(m.names), "", "a", "b", "none") {
		if got, want := g.Members(name), m.members(name); !slices.Equal(got, want) {
			t.Fatalf("%v: Members(%q) are %v, wanted %v", said, name, got, want)
		}
	}
	for _, pid := range append(slices.Clone(m.pids), -1, 0, 1, 2, 3, 4) {
		c := call{word: "of", pid: pid}
		if got, want := run(g, c), m.run(c); got != want {
			t.Fatalf("%v: Of(%d) is %v, wanted %v", said, pid, got, want)
		}
	}
}

// checkAgree: P9.3 of what the groups tell.
func checkAgree(t *testing.T, g *Groups, said any) {
	t.Helper()
	seen := map[int]string{}
	last := ""
	for name, list := range g.All() {
		if name <= last || !slices.IsSorted(list) || !slices.Equal(list, g.Members(name)) {
			t.Fatalf("%v: %q behind %q, %v, %v", said, name, last, list, g.Members(name))
		}
		last = name
		for _, pid := range list {
			if other, twice := seen[pid]; twice {
				t.Fatalf("%v: %d is of %q and of %q", said, pid, other, name)
			}
			seen[pid] = name
			if of, ok := g.Of(pid); of != name || !ok {
				t.Fatalf("%v: %d is in %q, and of %q, %v", said, pid, name, of, ok)
			}
		}
	}
}

// checkDrained: that the notes that are left are told as by the model, which is at its end then.
func checkDrained(t *testing.T, g *Groups, m *model, said any) {
	t.Helper()
	for {
		got, want := run(g, call{word: "emptied"}), m.emptied()
		if got != want {
			t.Fatalf("%v: then Emptied answered %v, wanted %v", said, got, want)
		}
		if !got.yes {
			return
		}
	}
}

// checkCalls: that groups answer calls as their model does.
func checkCalls(t *testing.T, calls []call) {
	t.Helper()
	g, m := New(), &model{}
	for i, c := range calls {
		before := say(g)
		got, want := run(g, c), m.run(c)
		if got != want {
			t.Fatalf("%v: answered %v, wanted %v", calls[:i+1], got, want)
		}
		if got.err != 0 && say(g) != before {
			t.Fatalf("%v: it erred and changed the groups", calls[:i+1])
		}
		check(t, g, m, calls[:i+1])
		checkAgree(t, g, calls[:i+1])
	}
	checkDrained(t, g, m, calls)
}

// readCalls: calls as text: `+a` makes a, `-a` removes it, `2a` puts 2 into it, `2!` is Gone of 2, `?` asks for one that became empty.
func readCalls(text string) []call {
	var calls []call
	for _, word := range strings.Fields(text) {
		c := call{word: "put", name: word[1:]}
		switch {
		case word == "?":
			c.word = "emptied"
		case word[0] == '+':
			c.word = "make"
		case word[0] == '-':
			c.word = "remove"
		case word[1] == '!':
			c = call{word: "gone", pid: int(word[0] - '0')}
		default:
			c.pid = int(word[0] - '0')
		}
		calls = append(calls, c)
	}
	return calls
}

// build: groups after calls that are all taken.
func build(t *testing.T, text string) *Groups {
	t.Helper()
	g := New()
	for _, c := range readCalls(text) {
		if r := run(g, c); r.err != 0 || !r.yes && c.word == "gone" {
			t.Fatalf("%s: %v answered %v", text, c, r)
		}
	}
	return g
}

// noMembers: numbers that no member can have.
func noMembers() []int { return []int{math.MinInt, math.MinInt32, -2, -1, 0, 1} }

func TestNewHasNothing(t *testing.T) { // P9.1
	g := New()
	if got := say(g); got != "" || drain(t, g) != "" || len(g.Members("a"))+len(g.Members("")) != 0 {
		t.Errorf("New: %s", got)
	}
	for _, pid := range append(noMembers(), 2, 3, math.MaxInt) {
		if name, ok := g.Of(pid); name != "" || ok || g.Gone(pid) {
			t.Errorf("%d is of %q, %v", pid, name, ok)
		}
	}
}

func TestExample(t *testing.T) { // P9.2: the chapter's
	g := New()
	if a, b, c := g.Make("a"), g.Put(2, "a"), g.Gone(2); a != 0 || b != 0 || !c {
		t.Errorf("%d, %d, %v", a, b, c)
	}
	if name, ok := g.Emptied(); name != "a" || !ok {
		t.Errorf("%q, %v", name, ok)
	}
	if name, ok := g.Emptied(); name != "" || ok {
		t.Errorf("%q, %v", name, ok)
	}
}

func TestMake(t *testing.T) { // P9.1
	g := New()
	names := []string{"a", " ", "\x00", "\xff", "a\x00", "a.service", "/", "ä", strings.Repeat("n", 61), strings.Repeat("n", 100000)}
	for _, name := range names {
		if err := g.Make(name); err != 0 || len(g.Members(name)) != 0 {
			t.Errorf("Make(%.20q): %d, %v", name, err, g.Members(name))
		}
	}
	if len(state(g)) != len(names) || drain(t, g) != "" { // what never had a member didn't become empty
		t.Errorf("%d of %d", len(state(g)), len(names))
	}
}

func TestMakeIsRefused(t *testing.T) { // P9.1
	g := build(t, "+a +b 2a")
	for range 2 {
		for name, want := range map[string]api.Errno{"": 90, "a": 91, "b": 91} {
			if err := g.Make(name); err != want {
				t.Errorf("Make(%q): %d, wanted %d", name, err, want)
			}
		}
	}
	if got := say(g); got != "a[2] b[]" || drain(t, g) != "" {
		t.Error(got)
	}
}

func TestRemove(t *testing.T) { // P9.1
	for _, row := range []struct{ calls, want string }{
		{"+a -a", ""},
		{"+a +b -a", "b[]"},
		{"+a +b -b", "a[]"},
		{"+a 2a 2! -a", ""},
		{"+a +b 2a 3b 2b -a", "b[2 3]"},
		{"+a -a +a", "a[]"},
		{"+a 2a 2! -a +a 2a", "a[2]"},
	} {
		g := build(t, row.calls)
		if got := say(g); got != row.want {
			t.Errorf("%s: %s, wanted %s", row.calls, got, row.want)
		}
		checkAgree(t, g, row.calls)
	}
}

func TestRemoveIsRefused(t *testing.T) { // P9.1
	g := build(t, "+a +b +c +d 2a 3a 4b 5d 5! -d")
	for _, row := range []struct {
		name string
		want api.Errno
	}{{"", 90}, {"d", 90}, {"e", 90}, {"a", 91}, {"b", 91}, {"A", 90}, {"a ", 90}, {"a\x00", 90}} {
		if err := g.Remove(row.name); err != row.want {
			t.Errorf("Remove(%q): %d, wanted %d", row.name, err, row.want)
		}
	}
	if got := say(g); got != "a[2 3] b[4] c[]" || drain(t, g) != "" {
		t.Error(got)
	}
}

func TestRefusedRemoveKeepsTheNote(t *testing.T) { // P9.1, P9.2
	g := build(t, "+a +b 2a 2! 3b 3! 4a") // a is noted ahead of b, and has a member again
	if err := g.Remove("a"); err != 91 {
		t.Error(err)
	}
	g.Gone(4)
	if got := drain(t, g); got != "a b" {
		t.Error(got)
	}
}

func TestRemoveTakesTheNote(t *testing.T) { // P9.1, P9.2
	for _, row := range []struct{ calls, want string }{
		{"+a 2a 2! -a", ""},
		{"+a +b +c 2a 2b 2c 2! -a", "b c"},
		{"+a +b +c 2a 2b 2c 2! -b", "a c"},
		{"+a +b +c 2a 2b 2c 2! -c", "a b"},
		{"+a +b +c 2a 2b 2c 2! -b -a", "c"},
		{"+a +b +c 2a 2b 2c 2! -c -b -a", ""},
		{"+a 2a 2! -a +a", ""},                   // a new one of that name didn't become empty
		{"+a 2a 2! -a +a 2a", ""},                // nor this one
		{"+a 2a 2! -a +a 2a 2!", "a"},            // this one did
		{"+a +b 2a 2! 3b 3! -a +a 2a 2!", "b a"}, // and its note is a new one
		{"+a +b +c 2a 2b 2c 2! -b +b 2b 2!", "a c b"},
		{"+a 2a 2! ? -a +a", ""},
	} {
		g := build(t, row.calls)
		if got := drain(t, g); got != row.want {
			t.Errorf("%s: %s, wanted %s", row.calls, got, row.want)
		}
	}
}

func TestPut(t *testing.T) { // P9.1, P9.3
	for _, row := range []struct{ calls, want, emptied string }{
		{"+a 2a", "a[2]", ""},
		{"+a 3a 2a 9a", "a[2 3 9]", ""},
		{"+a 2a 2a", "a[2]", ""},
		{"+a 2a 3a 2a", "a[2 3]", ""},
		{"+a +b 2a 2b", "a[] b[2]", "a"},
		{"+a +b 2a 3a 2b", "a[3] b[2]", ""},
		{"+a +b 2a 3b 2b", "a[] b[2 3]", "a"},
		{"+a +b 2a 2b 2a", "a[2] b[]", "b"},
		{"+a +b +c 2a 2b 2c", "a[] b[] c[2]", "a b"},
		{"+a +b +c 2c 2b 2a 2c", "a[] b[] c[2]", "b a"},
	} {
		g := build(t, row.calls)
		got := say(g)
		checkAgree(t, g, row.calls)
		if emptied := drain(t, g); got != row.want || emptied != row.emptied {
			t.Errorf("%s: %s, %s, wanted %s, %s", row.calls, got, emptied, row.want, row.emptied)
		}
	}
}

func TestPutOfAMemberDoesNothing(t *testing.T) { // P9.1, P9.2
	g := build(t, "+a +b 2a 3a")
	for range 3 {
		if err := g.Put(2, "a"); err != 0 || say(g) != "a[2 3] b[]" {
			t.Errorf("%d, %s", err, say(g))
		}
	}
	g.Gone(3)
	if err := g.Put(2, "a"); err != 0 || say(g) != "a[2] b[]" || drain(t, g) != "" { // the one member didn't go
		t.Errorf("%d, %s", err, say(g))
	}
}

func TestPutTakesAllNumbersFromTwoOn(t *testing.T) { // P9.1
	g := build(t, "+a +b")
	pids := []int{2, 3, 64, 65, 1000, math.MaxInt32, math.MaxInt32 + 1, 1 << 32, 1<<32 + 2, math.MaxInt - 1, math.MaxInt}
	for _, i := range rand.New(rand.NewSource(1)).Perm(len(pids)) {
		if err := g.Put(pids[i], "a"); err != 0 {
			t.Errorf("Put(%d): %d", pids[i], err)
		}
	}
	if got := g.Members("a"); !slices.Equal(got, pids) {
		t.Errorf("%v", got)
	}
	for _, pid := range pids {
		if of, ok := g.Of(pid); of != "a" || !ok {
			t.Errorf("Of(%d): %q, %v", pid, of, ok)
		}
	}
	if of, ok := g.Of(4); of != "" || ok {
		t.Errorf("Of(4): %q, %v", of, ok)
	}
}

func TestPutIsRefused(t *testing.T) { // P9.1
	g := build(t, "+a +b +c 2a 3b -c")
	for _, name := range []string{"", "c", "d", "A", "a ", "a\x00"} {
		for _, pid := range append(noMembers(), 2, 3, 4, math.MaxInt) {
			if err := g.Put(pid, name); err != 90 {
				t.Errorf("Put(%d, %q): %d", pid, name, err)
			}
		}
	}
	for _, pid := range noMembers() {
		if err := g.Put(pid, "a"); err != 90 {
			t.Errorf("Put(%d, a): %d", pid, err)
		}
		if of, ok := g.Of(pid); of != "" || ok || g.Gone(pid) {
			t.Errorf("%d is of %q, %v", pid, of, ok)
		}
	}
	if got := say(g); got != "a[2] b[3]" || drain(t, g) != "" { // a refused one left no group either
		t.Error(got)
	}
}

func TestGone(t *testing.T) { // P9.1, P9.2
	g := build(t, "+a +b 2a 3a 4b")
	for _, row := range []struct {
		pid  int
		want bool
		left string
	}{
		{5, false, "a[2 3] b[4]"}, {1, false, "a[2 3] b[4]"}, {-2, false, "a[2 3] b[4]"}, {math.MaxInt, false, "a[2 3] b[4]"},
		{3, true, "a[2] b[4]"}, {3, false, "a[2] b[4]"}, {4, true, "a[2] b[]"}, {4, false, "a[2] b[]"}, {2, true, "a[] b[]"}, {2, false, "a[] b[]"},
	} {
		if got := g.Gone(row.pid); got != row.want || say(g) != row.left {
			t.Errorf("Gone(%d): %v, %s", row.pid, got, say(g))
		}
		if of, ok := g.Of(row.pid); of != "" || ok {
			t.Errorf("Gone(%d): it is of %q, %v", row.pid, of, ok)
		}
		checkAgree(t, g, row.pid)
	}
	if got := drain(t, g); got != "b a" {
		t.Error(got)
	}
}

func TestOfAndMembers(t *testing.T) { // P9.1
	g := build(t, "+a +b +c 9b 2a 4b 3a 4a 2c")
	for pid, want := range map[int]string{2: "c", 3: "a", 4: "a", 5: "", 9: "b", 0: "", 1: ""} {
		if of, ok := g.Of(pid); of != want || ok != (want != "") {
			t.Errorf("Of(%d): %q, %v", pid, of, ok)
		}
	}
	for name, want := range map[string]string{"a": "[3 4]", "b": "[9]", "c": "[2]", "d": "[]", "": "[]"} {
		if got := fmt.Sprint(g.Members(name)); got != want {
			t.Errorf("Members(%q): %s", name, got)
		}
	}
}

func TestEmptied(t *testing.T) { // P9.2
	for _, row := range []struct{ calls, want string }{
		{"+a", ""},
		{"+a 2a", ""},
		{"+a 2a 2!", "a"},
		{"+a 2a 3a 2!", ""},
		{"+a 2a 3a 2! 3!", "a"},
		{"+a +b 2b 3a 2! 3!", "b a"}, // by when, not by name
		{"+a +b 2a 3b 2! 3!", "a b"},
		{"+a 2a 2! 2a", ""}, // it has a member again
		{"+a +b 2a 3b 2! 3! 4a", "b"},
		{"+a +b 2a 3b 2! 3! 4b", "a"},
		{"+a +b 2a 3b 2! 3! 4a 5b", ""},
		{"+a +b +c 2a 3b 4c 2! 3! 4! 5b", "a c"},
		{"+a 2a 2! 2a 2!", "a"}, // no second note
		{"+a 2a 2! 3a 3! 4a 4!", "a"},
		{"+a +b 2a 3b 2! 3! 2a 2!", "a b"},   // the first note holds its place
		{"+a 2a 2! ? 2a 2!", "a"},            // the first note was told: this is another one
		{"+a 2a 2! ?", ""},                   // once
		{"+a 2a 2! 2a ? 2!", "a"},            // the first note was left out
		{"+a +b 2a 3b 2! 3! 4a ? 4!", "a"},   // likewise, behind b
		{"+a +b 2a 3b 2! 3! 4b ? 4!", "b"},   // b's note stood behind a's: it is there still
		{"+a +b 2a 2! 2a ? 3b 3! 2!", "b a"}, // where none was told, the note is left out, too
		{"+a +b 2a 2b 2a 2b", "a"},           // to and fro
		{"+a +b 2a 2b 2a 2!", "a b"},         // a's note is the older one
		{"+a +b +c 2a 2! 2b 2! 2c 2! ? ?", "c"},
	} {
		g := build(t, row.calls)
		if got := drain(t, g); got != row.want {
			t.Errorf("%s: %s, wanted %s", row.calls, got, row.want)
		}
	}
}

func TestEmptiedChangesNoGroup(t *testing.T) { // P9.2
	g := build(t, "+a +b +c 2a 2! 3b 3! 4b 5c")
	before := say(g)
	drain(t, g)
	if say(g) != before || before != "a[] b[4] c[5]" {
		t.Errorf("%s became %s", before, say(g))
	}
}

func TestAllIsByName(t *testing.T) { // P9.1
	names := []string{"\x00", " ", "-", "10", "2", "A", "B", "a", "a\x00", "a ", "a.", "aa", "ab", "b", "z", "\x7f", "\x80", "ä", "\xff", "\xff\xff"}
	g := New()
	for i, j := range rand.New(rand.NewSource(2)).Perm(len(names)) {
		g.Make(names[j])
		for pid := 20 * (i + 1); pid > 20*(i+1)-j; pid-- {
			g.Put(pid, names[j])
		}
	}
	for range 20 { // a map would show its order sooner or later
		i := 0
		for name, list := range g.All() {
			if name != names[i] || len(list) != i || !slices.IsSorted(list) {
				t.Fatalf("%d: %q, %v", i, name, list)
			}
			i++
		}
		if i != len(names) {
			t.Fatalf("%d of %d", i, len(names))
		}
	}
}

func TestAllIsLeftAndGoneThroughAgain(t *testing.T) { // P9.1
	g := build(t, "+a +b +c +d 2a 4b 3b 5d")
	want := state(g)
	all := g.All()
	for most := range len(want) {
		var got []pair
		for name, list := range all {
			got = append(got, pair{name, list})
			if len(got) > most {
				break
			}
		}
		if !samePairs(got, want[:most+1]) {
			t.Errorf("left at %d: %v", most, got)
		}
	}
	seen := 0
	for name, list := range all {
		var got []pair
		for inner, members := range all {
			got = append(got, pair{inner, members})
		}
		if !samePairs([]pair{{name, list}}, want[seen:seen+1]) || !samePairs(got, want) {
			t.Errorf("within another: %q, %v, %v", name, list, got)
		}
		seen++
	}
	if seen != len(want) {
		t.Errorf("%d of %d", seen, len(want))
	}
}

func TestAllGivesWhatIsHeldThen(t *testing.T) { // P9.1
	g := New()
	all := g.All()
	for i, want := range []string{"b[]", "a[] b[]", "a[2] b[]", "a[] b[2]", "a[] b[2]", "b[2]", "b[]", "b[]", ""} {
		run(g, readCalls("+b +a 2a 2b +b -a 2! ? -b")[i])
		var got []pair
		for name, list := range all {
			got = append(got, pair{name, list})
		}
		if show(got) != want {
			t.Errorf("%d: %s, wanted %s", i, show(got), want)
		}
	}
}

func TestReadingChangesNothing(t *testing.T) { // P9.1, P9.2
	g := build(t, "+a +b +c 2a 2! 3b 3! 4b 5c")
	before := say(g)
	for range 3 {
		for pid := -2; pid < 9; pid++ {
			g.Of(pid)
		}
		for _, name := range []string{"", "a", "b", "c", "d"} {
			g.Members(name)
		}
		for range g.All() {
			break
		}
	}
	if say(g) != before || drain(t, g) != "a" {
		t.Errorf("%s became %s", before, say(g))
	}
}

// spoil: all of a list's memory is overwritten, its spare room too.
func spoil(l []int) {
	l = l[:cap(l)]
	for i := range l {
		l[i] = -7
	}
}

func TestAnswersAreNewMemory(t *testing.T) { // P9.1
	g := build(t, "+a +b +c 2a 3a 4a 5b 6b")
	before := say(g)
	kept, members := state(g), g.Members("a")
	for name, list := range g.All() {
		spoil(list)
		spoil(g.Members(name))
	}
	if say(g) != before || show(kept) != before || fmt.Sprint(members) != "[2 3 4]" {
		t.Errorf("%s became %s, %s, %v", before, say(g), show(kept), members)
	}
	for i := range kept { // the lists of one run share nothing
		spoil(kept[i].list)
		for _, p := range kept[i+1:] {
			if slices.Contains(p.list[:cap(p.list)], -7) {
				t.Errorf("%s shares memory with %s", p.name, kept[i].name)
			}
		}
	}
	g.Gone(3)
	g.Put(9, "a")
	if fmt.Sprint(members) != "[2 3 4]" || say(g) != "a[2 4 9] b[5 6] c[]" {
		t.Errorf("%v, %s", members, say(g))
	}
}

func TestGroupsAreApart(t *testing.T) { // P9.1, P9.2
	g, h := build(t, "+a 2a"), build(t, "+a +b 2b 2!")
	if g.Make("b") != 0 || h.Put(2, "a") != 0 || say(g) != "a[2] b[]" || say(h) != "a[2] b[]" {
		t.Errorf("%s, %s", say(g), say(h))
	}
	if a, b := drain(t, g), drain(t, h); a != "" || b != "b" {
		t.Errorf("%s, %s", a, b)
	}
}

func TestZeroGroupsAreNew(t *testing.T) { // P9.1: no call panics
	var g Groups
	if g.Remove("a") != 90 || g.Put(2, "a") != 90 || g.Gone(2) || g.Make("") != 90 || say(&g) != "" || drain(t, &g) != "" || len(g.Members("a")) != 0 {
		t.Error(say(&g))
	}
	if of, ok := g.Of(2); of != "" || ok {
		t.Errorf("%q, %v", of, ok)
	}
	if g.Make("a") != 0 || g.Make("b") != 0 || g.Put(2, "a") != 0 || g.Put(2, "b") != 0 || say(&g) != "a[] b[2]" || drain(t, &g) != "a" {
		t.Error(say(&g))
	}
}

func TestManyGroups(t *testing.T) { // P9.1, P9.2, P9.3
	const count = 3000
	g := New()
	name := func(i int) string { return fmt.Sprintf("g%05d", i) }
	for i := range count {
		g.Make(name(i))
		g.Put(i+2, name(i))
		g.Put(i+2+count, name(i))
	}
	order := rand.New(rand.NewSource(3)).Perm(count)
	for _, i := range order {
		if !g.Gone(i+2) || !g.Gone(i+2+count) {
			t.Fatalf("%d was of none", i)
		}
	}
	for at, i := range order {
		if at%3 == 0 {
			if err := g.Remove(name(i)); err != 0 {
				t.Fatalf("Remove(%d): %d", i, err)
			}
		}
	}
	for at, i := range order {
		if at%3 == 0 {
			continue
		}
		if got, ok := g.Emptied(); got != name(i) || !ok {
			t.Fatalf("%q, %v, wanted %q", got, ok, name(i))
		}
	}
	if drain(t, g) != "" || len(state(g)) != count-count/3 {
		t.Errorf("%d are left", len(state(g)))
	}
}

// each: all rows of just so many of the calls.
func each(calls []call, length int, do func([]call)) {
	row := make([]call, length)
	var fill func(int)
	fill = func(i int) {
		if i == length {
			do(row)
			return
		}
		for _, c := range calls {
			row[i] = c
			fill(i + 1)
		}
	}
	fill(0)
}

func TestAllShortRowsOfCalls(t *testing.T) { // P9.1, P9.2, P9.3
	for _, part := range []struct {
		first, calls string
		most         int
	}{
		{"", "+a +b -a -b 2a 2b 3a 2! 3! ?", 5},
		{"+a +b", "2a 2b 3a 2! 3! ? -a +a", 6},
		{"+a +b 2a 2! 3b 3!", "2a 2b 2! ? -a -b +a", 6},
	} {
		first := readCalls(part.first)
		for length := range part.most + 1 {
			each(readCalls(part.calls), length, func(row []call) {
				g, m := New(), &model{}
				for _, c := range slices.Concat(first, row) {
					if got, want := run(g, c), m.run(c); got != want {
						t.Fatalf("%s, %v: %v answered %v, wanted %v", part.first, row, c, got, want)
					}
				}
				check(t, g, m, row)
				checkDrained(t, g, m, row)
			})
		}
	}
}

// randomCall: mostly of few names and numbers.
func randomCall(r *rand.Rand, names []string, pids int) call {
	words := []string{"make", "make", "remove", "put", "put", "put", "put", "gone", "gone", "gone", "emptied"}
	return call{word: words[r.Intn(len(words))], pid: r.Intn(pids), name: names[r.Intn(len(names))]}
}

func TestCallsAgainstWords(t *testing.T) { // P9.1, P9.2, P9.3
	names := []string{"a", "b", "aa", "", "\xff", "a\x00"}
	for seed := range 600 {
		r := rand.New(rand.NewSource(int64(seed)))
		var calls []call
		for range 60 {
			calls = append(calls, randomCall(r, names[:2+seed%5], 4+seed%7))
		}
		checkCalls(t, calls)
	}
}

func TestManyCallsAgainstWords(t *testing.T) { // P9.1, P9.2, P9.3
	r := rand.New(rand.NewSource(5))
	var names []string
	for i := range 40 {
		names = append(names, fmt.Sprint("u", i, ".service"))
	}
	g, m := New(), &model{}
	told, most := 0, 0
	for i := range 30000 {
		c := randomCall(r, names, 66)
		if c.word == "emptied" && r.Intn(4) > 0 { // so that notes wait
			c.word = "of"
		}
		got, want := run(g, c), m.run(c)
		if got != want {
			t.Fatalf("call %d, %v: answered %v, wanted %v", i, c, got, want)
		}
		if c.word == "emptied" && got.yes {
			told++
		}
		most = max(most, len(m.notes))
		if !samePairs(state(g), m.state()) {
			t.Fatalf("call %d, %v: the groups are\n%s, wanted\n%s", i, c, say(g), show(m.state()))
		}
	}
	checkAgree(t, g, "at the end")
	checkDrained(t, g, m, "at the end")
	if told < 100 || most < 10 {
		t.Errorf("%d were told, at most %d notes waited: too few", told, most)
	}
}

func FuzzCalls(f *testing.F) { // P9.1, P9.2, P9.3
	f.Add([]byte("\x00a\x00\x00b\x00\x02a\x02\x02b\x02\x03a\x02\x04a\x00"))
	f.Add([]byte("\x00a\x00\x02a\x03\x03a\x03\x01a\x00\x00a\x00\x02a\x01"))
	f.Fuzz(func(t *testing.T, text []byte) {
		words := []string{"make", "remove", "put", "gone", "emptied"}
		var calls []call
		for ; len(text) >= 3 && len(calls) < 150; text = text[3:] {
			c := call{word: words[int(text[0])%len(words)], pid: int(int8(text[2])), name: string(text[1:2])}
			if text[1] == 0 {
				c.name = ""
			}
			calls = append(calls, c)
		}
		checkCalls(t, calls)
	})
}
