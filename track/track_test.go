package track

import (
	"cmp"
	"fmt"
	"iter"
	"math"
	"runtime"
	"slices"
	"strings"
	"sync"
	"testing"
	"time"

	"reveille/api"
)

// of: `a:2,3 b:5`: 2 and 3 are a's, 5 is b's.
func of(t *testing.T, text string) *Track {
	t.Helper()
	x := New()
	for _, w := range strings.Fields(text) {
		unit, list, _ := strings.Cut(w, ":")
		for _, n := range strings.Split(list, ",") {
			var pid int
			fmt.Sscan(n, &pid)
			if err := x.Add(unit, pid); err != 0 {
				t.Fatal(text, unit, pid, err)
			}
		}
	}
	return x
}

// say: all processes, as of reads them.
func say(x *Track) string {
	var words []string
	for unit := range x.Units() {
		var list []string
		for pid := range x.Pids(unit) {
			list = append(list, fmt.Sprint(pid))
		}
		words = append(words, unit+":"+strings.Join(list, ","))
	}
	return strings.Join(words, " ")
}

// numbers: those that are of a unit in some row, and others.
var numbers = []int{math.MinInt, -1 << 32, -3, -2, -1, 0, 1, 2, 3, 4, 5, 6, 7, 8, 9, 10, 99, 256 + 3, 1<<32 + 3, math.MaxInt}

// check: all that can be asked of x.
func check(t *testing.T, what string, x *Track, all string) {
	t.Helper()
	if got := say(x); got != all {
		t.Errorf("%s: %s, wanted %s", what, got, all)
	}
	homes := map[int]string{}
	for unit := range x.Units() {
		if n := len(slices.Collect(x.Pids(unit))); n == 0 {
			t.Errorf("%s: %q has none", what, unit)
		}
		for pid := range x.Pids(unit) {
			if homes[pid] != "" {
				t.Errorf("%s: %d is of %q and %q", what, pid, homes[pid], unit)
			}
			homes[pid] = unit
		}
	}
	for _, pid := range append(slices.Clone(numbers), 11, 12, 13) {
		unit, there := x.Unit(pid)
		if unit != homes[pid] || there != (homes[pid] != "") {
			t.Errorf("%s: Unit(%d): %q, %v; wanted %q", what, pid, unit, there, homes[pid])
		}
	}
	for _, unit := range []string{"", " ", "none", "a ", "a\x00"} {
		if got := slices.Collect(x.Pids(unit)); len(got) != 0 {
			t.Errorf("%s: Pids(%q): %v", what, unit, got)
		}
	}
}

func TestNew(t *testing.T) { // P19.1
	check(t, "New", New(), "")
}

func TestAdd(t *testing.T) { // P19.1
	for _, row := range []struct {
		was, unit string
		pid       int
		err       api.Errno
		all       string
	}{
		{"", "a", 2, 0, "a:2"},
		{"", "", 2, 190, ""},
		{"", "a", 1, 190, ""},
		{"", "a", 0, 190, ""},
		{"", "a", -1, 190, ""},
		{"", "a", -2, 190, ""},
		{"", "a", math.MinInt, 190, ""},
		{"", "a", math.MaxInt, 0, fmt.Sprint("a:", math.MaxInt)},
		{"", "", 1, 190, ""},
		{"a:2", "a", 2, 190, "a:2"}, // it is of that unit
		{"a:2", "b", 2, 190, "a:2"}, // or of another one
		{"a:2", "", 2, 190, "a:2"},
		{"a:2", "", 3, 190, "a:2"},
		{"a:2", "a", 3, 0, "a:2,3"},
		{"a:3", "a", 2, 0, "a:2,3"}, // rising
		{"a:3", "b", 2, 0, "a:3 b:2"},
		{"b:3", "a", 2, 0, "a:2 b:3"},
		{"b:3", "a", 4, 0, "a:4 b:3"},
		{"a:9,10,100,1000", "a", 99, 0, "a:9,10,99,100,1000"}, // as numbers
		{"a:2", "A", 3, 0, "A:3 a:2"},
		{"a:2", "ab", 3, 0, "a:2 ab:3"},
		{"ab:2", "a", 3, 0, "a:3 ab:2"},
		{"a-b:2", "a.b", 3, 0, "a-b:2 a.b:3"},
		{"a10:2", "a9", 3, 0, "a10:2 a9:3"}, // as bytes
		{"a:3", "a", 256 + 3, 0, "a:3,259"},
		{"a:3", "a", 1<<32 + 3, 0, "a:3,4294967299"},
	} {
		x := of(t, row.was)
		if err := x.Add(row.unit, row.pid); err != row.err {
			t.Errorf("%s: Add(%q, %d): %d, wanted %d", row.was, row.unit, row.pid, err, row.err)
		}
		check(t, fmt.Sprintf("%s, Add(%q, %d)", row.was, row.unit, row.pid), x, row.all)
	}
}

func TestUnitsAreAnyTexts(t *testing.T) { // P19.1: but the empty one
	names := []string{" ", "a.service", "no name", "\x00", "\xff", "a.service\n", strings.Repeat("x", 1000), "é", "A", "z"}
	x := New()
	for i, n := range names {
		if err := x.Add(n, 2+i); err != 0 {
			t.Errorf("%q: %d", n, err)
		}
	}
	sorted := slices.Clone(names)
	slices.SortFunc(sorted, func(a, b string) int { return slices.Compare([]byte(a), []byte(b)) })
	if got := slices.Collect(x.Units()); !slices.Equal(got, sorted) {
		t.Errorf("%q", got)
	}
	for i, n := range names {
		if got := slices.Collect(x.Pids(n)); !slices.Equal(got, []int{2 + i}) {
			t.Errorf("%q: %v", n, got)
		}
		if unit, err := x.Gone(2 + i); unit != n || err != 0 {
			t.Errorf("%q: %q, %d", n, unit, err)
		}
	}
	check(t, "all gone", x, "")
}

func TestFork(t *testing.T) { // P19.1
	for _, row := range []struct {
		was           string
		parent, child int
		err           api.Errno
		all           string
	}{
		{"a:2", 2, 3, 0, "a:2,3"},
		{"a:3", 3, 2, 0, "a:2,3"},
		{"a:2 b:3", 3, 4, 0, "a:2 b:3,4"},
		{"a:2 b:3", 2, 4, 0, "a:2,4 b:3"},
		{"", 2, 3, 190, ""}, // a parent of no unit
		{"a:2", 3, 4, 190, "a:2"},
		{"a:2", 1, 4, 190, "a:2"},
		{"a:2", 0, 4, 190, "a:2"},
		{"a:2", -2, 4, 190, "a:2"},
		{"a:2", 256 + 2, 4, 190, "a:2"},
		{"a:2", math.MinInt, 4, 190, "a:2"},
		{"a:2", math.MaxInt, 4, 190, "a:2"},
		{"a:2", 3, 2, 190, "a:2"}, // of no unit, and the child is of one
		{"a:2", 2, 2, 190, "a:2"}, // a child of a unit
		{"a:2,3", 2, 3, 190, "a:2,3"},
		{"a:2 b:3", 2, 3, 190, "a:2 b:3"},
		{"a:2", 2, 1, 190, "a:2"}, // no child
		{"a:2", 2, 0, 190, "a:2"},
		{"a:2", 2, -1, 190, "a:2"},
		{"a:2", 2, math.MinInt, 190, "a:2"},
		{"a:2", 2, math.MaxInt, 0, fmt.Sprint("a:2,", math.MaxInt)},
		{"a:2", 1, 1, 190, "a:2"},
	} {
		x := of(t, row.was)
		if err := x.Fork(row.parent, row.child); err != row.err {
			t.Errorf("%s: Fork(%d, %d): %d, wanted %d", row.was, row.parent, row.child, err, row.err)
		}
		check(t, fmt.Sprintf("%s, Fork(%d, %d)", row.was, row.parent, row.child), x, row.all)
	}
}

func TestGone(t *testing.T) { // P19.1
	const all = "a:3,5,9 b:4 c:2,10"
	after := map[int]string{3: "a:5,9 b:4 c:2,10", 5: "a:3,9 b:4 c:2,10", 9: "a:3,5 b:4 c:2,10", 4: "a:3,5,9 c:2,10", 2: "a:3,5,9 b:4 c:10", 10: "a:3,5,9 b:4 c:2"}
	units := map[int]string{3: "a", 5: "a", 9: "a", 4: "b", 2: "c", 10: "c"}
	for _, pid := range numbers {
		x := of(t, all)
		want, err := all, api.ErrTrack
		if units[pid] != "" {
			want, err = after[pid], 0
		}
		if unit, e := x.Gone(pid); unit != units[pid] || e != err {
			t.Errorf("Gone(%d): %q, %d", pid, unit, e)
		}
		check(t, fmt.Sprintf("Gone(%d)", pid), x, want)
		if unit, e := x.Gone(pid); unit != "" || e != 190 {
			t.Errorf("Gone(%d) again: %q, %d", pid, unit, e)
		}
		check(t, fmt.Sprintf("Gone(%d) again", pid), x, want)
	}
}

func TestWhoIsGoneMayComeBack(t *testing.T) { // P19.1, P19.4
	x := of(t, "a:2 b:3")
	for i := range 6 {
		units := []string{"a", "b", "c"}
		was, is := units[i%3], units[(i+1)%3]
		if unit, err := x.Gone(2); unit != was || err != 0 {
			t.Fatal(unit, err)
		}
		if err := x.Fork(2, 4); err != 190 {
			t.Fatal(err)
		}
		if err := x.Add(is, 2); err != 0 {
			t.Fatal(err)
		}
		want := map[string]string{"a": "a:2 b:3", "b": "b:2,3", "c": "b:3 c:2"}[is]
		check(t, "2 is of "+is, x, want)
	}
}

func TestAParentsEndLeavesItsChild(t *testing.T) { // P19.1: the chapter's example
	x := New()
	if a, f := x.Add("a", 2), x.Fork(2, 3); a != 0 || f != 0 {
		t.Error(a, f)
	}
	if unit, err := x.Gone(2); unit != "a" || err != 0 {
		t.Error(unit, err)
	}
	check(t, "the example", x, "a:3")
	if err := x.Fork(3, 2); err != 0 {
		t.Error(err)
	}
	check(t, "and back", x, "a:2,3")
}

func TestSync(t *testing.T) { // P19.2
	for _, row := range []struct {
		was, unit string
		pids      []int
		came      int
		left      int
		all       string
	}{
		{"", "a", nil, 0, 0, ""},
		{"", "a", []int{}, 0, 0, ""},
		{"", "a", []int{2}, 1, 0, "a:2"},
		{"", "a", []int{3, 2, 9}, 3, 0, "a:2,3,9"},
		{"", "a", []int{2, 2, 2}, 1, 0, "a:2"}, // each counts once
		{"", "a", []int{3, 2, 3, 2, 4, 3}, 3, 0, "a:2,3,4"},
		{"", "a", []int{1, 0, -1, math.MinInt}, 0, 0, ""}, // those from 2 on alone
		{"", "a", []int{1, 2, 0, 3, -5}, 2, 0, "a:2,3"},
		{"", "a", []int{math.MaxInt, 1 << 32}, 2, 0, fmt.Sprintf("a:%d,%d", 1<<32, math.MaxInt)},
		{"a:2", "a", nil, 0, 1, ""},
		{"a:2,3,4", "a", nil, 0, 3, ""},
		{"a:2,3,4", "a", []int{1}, 0, 3, ""},
		{"a:2,3,4", "a", []int{4, 3, 2}, 0, 0, "a:2,3,4"}, // those that stay are neither
		{"a:2,3,4", "a", []int{4, 4, 2}, 0, 1, "a:2,4"},
		{"a:2,3,4", "a", []int{5, 6}, 2, 3, "a:5,6"},
		{"a:2,3,4", "a", []int{3, 5, 1}, 1, 2, "a:3,5"},
		{"a:2", "a", []int{3}, 1, 1, "a:3"},
		{"a:2 b:3", "a", nil, 0, 1, "b:3"}, // other units stay
		{"a:2 b:3", "c", nil, 0, 0, "a:2 b:3"},
		{"a:2 b:3", "c", []int{4}, 1, 0, "a:2 b:3 c:4"},
		{"a:2 b:3", "a", []int{2, 3}, 1, 0, "a:2,3"}, // those of others are these no more
		{"a:2 b:3,4", "a", []int{2, 3}, 1, 0, "a:2,3 b:4"},
		{"a:2 b:3,4", "a", []int{4, 3}, 2, 1, "a:3,4"},
		{"a:2 b:3,4", "a", []int{3, 3, 3}, 1, 1, "a:3 b:4"},
		{"a:2 b:3 c:4,5 d:6", "e", []int{2, 3, 4, 7, 1}, 4, 0, "c:5 d:6 e:2,3,4,7"},
		{"a:2,3 b:4", "", nil, 0, 0, "a:2,3 b:4"}, // nothing of an empty unit
		{"a:2,3 b:4", "", []int{2}, 0, 0, "a:2,3 b:4"},
		{"a:2,3 b:4", "", []int{5, 6}, 0, 0, "a:2,3 b:4"},
		{"", "", []int{5, 6}, 0, 0, ""},
	} {
		x, what := of(t, row.was), fmt.Sprintf("%s, Sync(%q, %v)", row.was, row.unit, row.pids)
		came, left := x.Sync(row.unit, row.pids)
		if came != row.came || left != row.left {
			t.Errorf("%s: %d, %d; wanted %d, %d", what, came, left, row.came, row.left)
		}
		check(t, what, x, row.all)
		came, left = x.Sync(row.unit, row.pids) // and now they are
		if came != 0 || left != 0 {
			t.Errorf("%s again: %d, %d", what, came, left)
		}
		check(t, what+" again", x, row.all)
	}
}

func TestWhoWasSyncedIsAsWhoWasAdded(t *testing.T) { // P19.1, P19.2
	x := of(t, "a:2 b:3")
	x.Sync("b", []int{2, 4})
	if a, b, c, d := x.Add("a", 2), x.Add("a", 4), x.Fork(4, 5), x.Add("a", 3); a != 190 || b != 190 || c != 0 || d != 0 {
		t.Error(a, b, c, d)
	}
	check(t, "Sync", x, "a:3 b:2,4,5")
	if unit, err := x.Gone(2); unit != "b" || err != 0 {
		t.Error(unit, err)
	}
	x.Sync("b", nil)
	if unit, err := x.Gone(4); unit != "" || err != 190 {
		t.Error(unit, err)
	}
	if err := x.Fork(5, 6); err != 190 {
		t.Error(err)
	}
	check(t, "Sync", x, "a:3")
}

func TestTargets(t *testing.T) { // P19.3
	const all = "a:8,4,100 b:5 c:9"
	for _, row := range []struct {
		unit                string
		mode, main, control int
		want                string
	}{
		{"a", api.KillGroup, 0, 0, "[4 8 100]"},
		{"a", api.KillGroup, 9, 9, "[4 8 100]"}, // all of the unit's and no others
		{"a", api.KillGroup, 4, 8, "[4 8 100]"},
		{"b", api.KillGroup, 4, 8, "[5]"},
		{"c", api.KillGroup, 9, 0, "[9]"},
		{"d", api.KillGroup, 4, 8, "[]"},
		{"", api.KillGroup, 4, 8, "[]"},
		{"a", api.KillMain, 4, 8, "[4 8]"},
		{"a", api.KillMain, 8, 4, "[4 8]"},
		{"a", api.KillMain, 8, 8, "[8]"}, // once
		{"a", api.KillMain, 2, 2, "[2]"},
		{"a", api.KillMain, 2, 3, "[2 3]"}, // whose ever they are
		{"a", api.KillMain, 9, 5, "[5 9]"},
		{"a", api.KillMain, 0, 8, "[8]"}, // those above 1
		{"a", api.KillMain, 8, 0, "[8]"},
		{"a", api.KillMain, 1, 8, "[8]"},
		{"a", api.KillMain, 8, 1, "[8]"},
		{"a", api.KillMain, 0, 0, "[]"},
		{"a", api.KillMain, 1, 1, "[]"},
		{"a", api.KillMain, 1, 0, "[]"},
		{"a", api.KillMain, -4, math.MinInt, "[]"},
		{"a", api.KillMain, math.MaxInt, -1, fmt.Sprint([]int{math.MaxInt})},
		{"d", api.KillMain, 7, 6, "[6 7]"},
		{"", api.KillMain, 7, 6, "[6 7]"},
		{"a", api.KillNone, 4, 8, "[]"},
		{"a", 0, 4, 8, "[]"}, // no modes
		{"a", 4, 4, 8, "[]"},
		{"a", -1, 4, 8, "[]"},
		{"a", 256 + api.KillGroup, 4, 8, "[]"},
		{"a", 1<<32 + api.KillMain, 4, 8, "[]"},
		{"a", math.MinInt, 4, 8, "[]"},
		{"a", math.MaxInt, 4, 8, "[]"},
	} {
		x := of(t, all)
		if got := fmt.Sprint(x.Targets(row.unit, row.mode, row.main, row.control)); got != row.want {
			t.Errorf("Targets(%q, %d, %d, %d): %s, wanted %s", row.unit, row.mode, row.main, row.control, got, row.want)
		}
		check(t, "Targets looks only", x, "a:4,8,100 b:5 c:9")
	}
}

func TestIteratorsGiveWhatIsThereThen(t *testing.T) { // P19.1
	var zero Track
	for _, x := range []*Track{New(), &zero} {
		units, pids := x.Units(), x.Pids("a")
		for _, row := range []struct {
			act         func()
			units, pids string
		}{
			{func() {}, "[]", "[]"},
			{func() { x.Add("b", 2) }, "[b]", "[]"},
			{func() { x.Add("a", 5) }, "[a b]", "[5]"},
			{func() { x.Fork(5, 3) }, "[a b]", "[3 5]"},
			{func() { x.Gone(2) }, "[a]", "[3 5]"},
			{func() { x.Gone(3) }, "[a]", "[5]"},
			{func() { x.Gone(5) }, "[]", "[]"},
			{func() { x.Sync("a", []int{9, 7}) }, "[a]", "[7 9]"},
			{func() { x.Sync("c", []int{9}) }, "[a c]", "[7]"},
			{func() { x.Sync("c", []int{7}) }, "[c]", "[]"},
			{func() { x.Add("a", 9) }, "[a c]", "[9]"},
		} {
			row.act()
			if got := fmt.Sprint(slices.Collect(units)); got != row.units {
				t.Errorf("Units: %s, wanted %s", got, row.units)
			}
			if got := fmt.Sprint(slices.Collect(pids)); got != row.pids {
				t.Errorf("Pids: %s, wanted %s", got, row.pids)
			}
		}
	}
}

// checkLeft: that who leaves is told nothing more, at each place, and that one may be gone through within itself.
func checkLeft[T cmp.Ordered](t *testing.T, seq iter.Seq[T]) {
	t.Helper()
	all := slices.Collect(seq)
	for most := 1; most <= len(all); most++ {
		var got []T
		seq(func(one T) bool {
			got = append(got, one)
			return len(got) < most
		})
		if !slices.Equal(got, all[:most]) {
			t.Errorf("left at %d: %v of %v", most, got, all)
		}
	}
	var outer []T
	for a := range seq {
		outer = append(outer, a)
		var inner []T
		for b := range seq {
			inner = append(inner, b)
			if b == a {
				break
			}
		}
		if !slices.Equal(inner, all[:len(outer)]) {
			t.Errorf("within: %v of %v", inner, all)
		}
	}
	if !slices.Equal(outer, all) || len(all) < 3 || !slices.IsSorted(all) {
		t.Errorf("%v, then %v", all, outer)
	}
}

func TestIteratorsAreLeft(t *testing.T) { // P19.1
	x := of(t, "c:9,4,11,2 a:3 e:8 b:10,12 d:7")
	checkLeft(t, x.Units())
	checkLeft(t, x.Pids("c"))
}

func TestWhatIsHandedInStays(t *testing.T) { // neither changed nor kept, nor is the room behind it
	room := []int{9, 2, 1, 9, 5, 0, 3, 2}
	was := slices.Clone(room)
	for n := range len(room) + 1 {
		x := of(t, "a:2,4 b:9")
		x.Sync("a", room[:n])
		before := say(x)
		if !slices.Equal(room, was) {
			t.Fatalf("Sync of %d: %v", n, room)
		}
		clear(room)
		check(t, fmt.Sprintf("Sync of %d", n), x, before)
		copy(room, was)
	}
}

func TestAnswersAreNewMemory(t *testing.T) { // their spare room too
	x := of(t, "a:2,3,5 b:7")
	spoil := func(l []int) {
		l = l[:cap(l)]
		for i := range l {
			l[i] = 77
		}
	}
	var answers [][]int
	for range 3 {
		answers = append(answers, x.Targets("a", api.KillGroup, 0, 0), x.Targets("a", api.KillMain, 9, 8), x.Targets("b", api.KillGroup, 0, 0), slices.Collect(x.Pids("a")))
	}
	want := []string{"[2 3 5]", "[8 9]", "[7]", "[2 3 5]"}
	for i, a := range answers {
		if got := fmt.Sprint(a); got != want[i%4] {
			t.Errorf("%d: %s", i, got)
		}
		spoil(a)
	}
	check(t, "spoilt", x, "a:2,3,5 b:7")
}

func TestZeroTrackIsAsNew(t *testing.T) { // no call panics
	for _, act := range []func(*Track) string{
		func(x *Track) string { return say(x) },
		func(x *Track) string { return fmt.Sprint(x.Add("a", 2), x.Fork(2, 3), say(x)) },
		func(x *Track) string { return fmt.Sprint(x.Add("", 2), x.Add("a", 1), x.Fork(2, 3)) },
		func(x *Track) string { unit, err := x.Gone(2); return fmt.Sprint(unit, err) },
		func(x *Track) string { unit, there := x.Unit(2); return fmt.Sprint(unit, there) },
		func(x *Track) string {
			came, left := x.Sync("a", []int{4, 3})
			return fmt.Sprint(came, left, say(x))
		},
		func(x *Track) string {
			came, left := x.Sync("a", nil)
			return fmt.Sprint(came, left, say(x))
		},
		func(x *Track) string {
			return fmt.Sprint(x.Targets("a", api.KillGroup, 2, 3), x.Targets("a", api.KillMain, 2, 3))
		},
	} {
		var zero Track
		if got, want := act(&zero), act(New()); got != want {
			t.Errorf("%s, wanted %s", got, want)
		}
		if err := zero.Add("z", 99); err != 0 {
			t.Error(err)
		}
		if unit, there := zero.Unit(99); unit != "z" || !there {
			t.Error(unit, there)
		}
	}
}

func TestTracksAreApart(t *testing.T) { // several objects
	a, b := New(), New()
	a.Add("a", 2)
	a.Fork(2, 3)
	check(t, "b", b, "")
	b.Add("b", 2)
	b.Sync("a", []int{3, 4})
	check(t, "a", a, "a:2,3")
	check(t, "b", b, "a:3,4 b:2")
	a.Gone(3)
	b.Sync("b", nil)
	check(t, "a", a, "a:2")
	check(t, "b", b, "a:3,4")
}

func TestSeveralGoroutinesLook(t *testing.T) { // at a track that isn't changed
	x := of(t, "a:9,2 b:3")
	before := runtime.NumGoroutine()
	var all sync.WaitGroup
	for range 8 {
		all.Go(func() {
			for range 100 {
				unit, there := x.Unit(9)
				if got := fmt.Sprintln(say(x), unit, there, x.Targets("a", api.KillGroup, 0, 0), x.Targets("a", api.KillMain, 3, 2)); got != "a:2,9 b:3 a true [2 9] [2 3]\n" {
					t.Error(got)
				}
			}
		})
	}
	all.Wait()
	for range 100 { // those above may still be going
		if runtime.NumGoroutine() <= before {
			return
		}
		time.Sleep(time.Millisecond)
	}
	t.Errorf("%d goroutines, %d before", runtime.NumGoroutine(), before)
}

func TestManyProcesses(t *testing.T) { // P19.1 to P19.3: a list has no bound here; to look for each among all would take long
	const many = 100000
	x := New()
	began := time.Now()
	var even, odd []int
	for i := range many {
		even, odd = append(even, 2*many-2*i), append(odd, 2*i+3)
	}
	if came, left := x.Sync("a", append(slices.Clone(even), odd...)); came != 2*many || left != 0 {
		t.Error(came, left)
	}
	for _, pid := range odd {
		if unit, err := x.Gone(pid); unit != "a" || err != 0 {
			t.Fatal(unit, err)
		}
		if err := x.Add(fmt.Sprint("u", pid), pid); err != 0 {
			t.Fatal(err)
		}
	}
	if l := x.Targets("a", api.KillGroup, 0, 0); len(l) != many || !slices.IsSorted(l) {
		t.Error(len(l))
	}
	if n := len(slices.Collect(x.Units())); n != many+1 {
		t.Error(n)
	}
	if came, left := x.Sync("b", append(even, odd...)); came != 2*many || left != 0 {
		t.Error(came, left)
	}
	if got := slices.Collect(x.Units()); !slices.Equal(got, []string{"b"}) {
		t.Error(len(got))
	}
	if came, left := x.Sync("b", odd); came != 0 || left != many {
		t.Error(came, left)
	}
	if spent := time.Since(began); spent > 20*time.Second {
		t.Errorf("it took %v", spent)
	}
}

// heap: how much is held.
func heap() uint64 {
	runtime.GC()
	var m runtime.MemStats
	runtime.ReadMemStats(&m)
	return m.HeapAlloc
}

func TestWhatIsGoneIsNotKept(t *testing.T) { // units and processes
	x := New()
	long := strings.Repeat("x", 1000)
	before := heap()
	for i := range 100000 {
		unit := fmt.Sprint(i, long)
		if i%2 == 0 {
			x.Add(unit, 2+i)
			x.Gone(2 + i)
		} else {
			x.Sync(unit, []int{2 + i})
			x.Sync(unit, nil)
		}
	}
	if after := heap(); after > before+10<<20 {
		t.Errorf("%d bytes, %d before", after, before)
	}
	check(t, "all gone", x, "")
}
