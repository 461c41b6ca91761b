package loop

import (
	"fmt"
	"iter"
	"math"
	"math/rand"
	"runtime"
	"slices"
	"strings"
	"testing"

	"reveille/api"
)

const (
	never = math.MaxInt64 // Forever
	first = math.MinInt64 // nothing is earlier
)

// of: a loop with events of these kinds, pushed in this order; Pid tells their places, from 1 on.
func of(t *testing.T, kinds ...int) *Loop {
	t.Helper()
	l := New()
	for i, kind := range kinds {
		if err := l.Push(api.Event{Kind: kind, Pid: i + 1}); err != 0 {
			t.Fatalf("Push of kind %d: %d", kind, err)
		}
	}
	return l
}

// say: all that can be asked of a loop without a timer's name, as text.
func say(l *Loop) string {
	return fmt.Sprintf("%d%v %v %d", l.Len(), slices.Collect(l.All()), slices.Collect(l.Timers()), l.Soonest())
}

// pids: of what the iterator gives, as text.
func pids(events iter.Seq[api.Event]) string {
	var all []int
	for e := range events {
		all = append(all, e.Pid)
	}
	return fmt.Sprint(all)
}

// drain: the Pids that Next tells until nothing waits, as text.
func drain(t *testing.T, l *Loop) string {
	t.Helper()
	var all []int
	for left := l.Len(); left > 0; left-- {
		e, ok := l.Next()
		if !ok || l.Len() != left-1 {
			t.Fatalf("Next: %v, %v; %d left, wanted %d", e, ok, l.Len(), left-1)
		}
		all = append(all, e.Pid)
	}
	checkNone(t, l)
	return fmt.Sprint(all)
}

// checkNone: that no event waits.
func checkNone(t *testing.T, l *Loop) {
	t.Helper()
	if e, ok := l.Next(); e != (api.Event{}) || ok || l.Len() != 0 {
		t.Errorf("Next of nothing: %v, %v; Len %d", e, ok, l.Len())
	}
	for e := range l.All() {
		t.Errorf("%v waits", e)
	}
}

// checkUnset: that no timer is set.
func checkUnset(t *testing.T, l *Loop) {
	t.Helper()
	for d := range l.Timers() {
		t.Errorf("%v is set", d)
	}
	if at := l.Soonest(); at != never {
		t.Errorf("Soonest of none: %d", at)
	}
	if l := l.Elapse(never); len(l) != 0 {
		t.Errorf("%v elapsed", l)
	}
}

func TestNewIsEmpty(t *testing.T) { // P14.1, P14.2
	l := New()
	checkNone(t, l)
	checkUnset(t, l)
	if l.At("a", "main") != never || l.At("", "") != never || l.Forget("a") != 0 || l.Forget("") != 0 {
		t.Error("something is in a new loop")
	}
}

func TestExample(t *testing.T) { // P14.1: the chapter's
	l := New()
	l.Push(api.Event{Kind: api.ETimer, Unit: "a"})
	l.Push(api.Event{Kind: api.EExit, Unit: "b"})
	if e, ok := l.Next(); e != (api.Event{Kind: api.EExit, Unit: "b"}) || !ok {
		t.Errorf("%v, %v", e, ok)
	}
}

func TestPushTakesSources(t *testing.T) { // P14.1
	for _, row := range []struct {
		kind int
		want api.Errno
	}{
		{api.EExit, 0}, {api.ENote, 0}, {api.EConn, 0}, {api.EPath, 0}, {api.ETimer, 0}, {api.EJob, 0},
		{0, 140}, {7, 140}, {-1, 140}, {-6, 140}, {8, 140}, {257, 140}, {1<<32 + 1, 140}, {math.MaxInt, 140}, {math.MinInt, 140}, {math.MinInt + 1, 140},
	} {
		for _, e := range []api.Event{{}, {Pid: 2, Status: -9, Unit: "a", Text: "b"}, {Pid: api.EExit, Status: api.EExit}} {
			e.Kind = row.kind
			l := New()
			if err := l.Push(e); err != row.want {
				t.Errorf("%v: %d", e, err)
			}
			if row.want != 0 {
				checkNone(t, l)
			} else if got, ok := l.Next(); got != e || !ok {
				t.Errorf("%v became %v, %v", e, got, ok)
			}
		}
	}
}

func TestWhatIsRefusedChangesNothing(t *testing.T) { // P14.1
	l := of(t, 5, 1, 5)
	l.Set("a", "main", 3)
	before := say(l)
	for _, kind := range []int{0, 7, -1, math.MaxInt, math.MinInt} {
		if err := l.Push(api.Event{Kind: kind, Pid: 9, Unit: "a"}); err != 140 || say(l) != before {
			t.Errorf("kind %d: %d, %s became %s", kind, err, before, say(l))
		}
	}
	if got := drain(t, l); got != "[2 1 3]" {
		t.Error(got)
	}
}

func TestNextIsByKind(t *testing.T) { // P14.1, P14.3
	for _, row := range []struct {
		kinds []int
		want  string
	}{
		{nil, "[]"},
		{[]int{6}, "[1]"},
		{[]int{1, 2, 3, 4, 5, 6}, "[1 2 3 4 5 6]"},
		{[]int{6, 5, 4, 3, 2, 1}, "[6 5 4 3 2 1]"},
		{[]int{5, 1}, "[2 1]"},
		{[]int{3, 3, 3}, "[1 2 3]"},
		{[]int{2, 1, 2, 1, 2}, "[2 4 1 3 5]"},
		{[]int{6, 6, 1, 6, 1, 4, 4, 1}, "[3 5 8 6 7 1 2 4]"},
		{[]int{5, 1, 6, 5, 3, 1}, "[2 6 5 1 4 3]"},
	} {
		l := of(t, row.kinds...)
		if got := pids(l.All()); got != row.want || l.Len() != len(row.kinds) {
			t.Errorf("%v: All %s, Len %d", row.kinds, got, l.Len())
		}
		if got := drain(t, l); got != row.want {
			t.Errorf("%v: %s", row.kinds, got)
		}
	}
}

func TestNextGoesByKindAlone(t *testing.T) { // P14.1: no other field counts
	for _, more := range []api.Event{{Kind: 2, Pid: -1}, {Kind: 2, Status: -1}, {Kind: 2, Unit: ""}, {Kind: 2, Text: ""}} {
		l := New()
		l.Push(api.Event{Kind: 2, Pid: 5, Status: 5, Unit: "u", Text: "t"})
		l.Push(more)
		l.Push(api.Event{Kind: 1, Pid: 9, Status: 9, Unit: "z", Text: "z"})
		for i, want := range []int{9, 5, more.Pid} {
			if e, ok := l.Next(); e.Pid != want || !ok {
				t.Errorf("%v, %d: %v, %v", more, i, e, ok)
			}
		}
	}
}

func TestPushesAndNextsInTurn(t *testing.T) { // P14.1, P14.3
	l := of(t, 5, 5)
	if e, _ := l.Next(); e.Pid != 1 {
		t.Error(e)
	}
	l.Push(api.Event{Kind: 5, Pid: 3})
	l.Push(api.Event{Kind: 2, Pid: 4})
	for i, want := range []int{4, 2} {
		if e, _ := l.Next(); e.Pid != want {
			t.Errorf("%d: %v", i, e)
		}
	}
	l.Push(api.Event{Kind: 6, Pid: 5})
	l.Push(api.Event{Kind: 5, Pid: 6})
	if got := drain(t, l); got != "[3 6 5]" {
		t.Error(got)
	}
	l.Push(api.Event{Kind: 6, Pid: 7}) // behind nothing, it goes on
	l.Push(api.Event{Kind: 1, Pid: 8})
	if got := drain(t, l); got != "[8 7]" {
		t.Error(got)
	}
}

func TestLikeEventsAreToldEach(t *testing.T) { // P14.1, P14.3: as often as they were pushed
	l := New()
	e := api.Event{Kind: 3, Pid: 2, Status: 1, Unit: "a", Text: "x"}
	for range 3 {
		l.Push(e)
	}
	l.Push(api.Event{Kind: 3, Pid: 2, Status: 1, Unit: "a", Text: "y"})
	for range 3 {
		if got, ok := l.Next(); got != e || !ok {
			t.Errorf("%v, %v", got, ok)
		}
	}
	if got, ok := l.Next(); got.Text != "y" || !ok {
		t.Errorf("%v, %v", got, ok)
	}
	checkNone(t, l)
}

func TestEventsAreToldWhole(t *testing.T) { // P14.1
	for _, e := range []api.Event{
		{Kind: 1},
		{Kind: 1, Pid: math.MinInt, Status: math.MaxInt},
		{Kind: 2, Pid: math.MaxInt, Status: math.MinInt, Unit: "\x00\xff", Text: "READY=1\n"},
		{Kind: 6, Unit: strings.Repeat("u", 5000), Text: strings.Repeat("t", 5000)},
	} {
		l := New()
		l.Push(e)
		for got := range l.All() {
			if got != e {
				t.Errorf("%v: All gave %v", e, got)
			}
		}
		if got, ok := l.Next(); got != e || !ok {
			t.Errorf("%v: Next told %v, %v", e, got, ok)
		}
	}
}

func TestAllTakesNothingOut(t *testing.T) { // P14.1
	l := of(t, 5, 1, 6, 5)
	all := l.All()
	for range 3 {
		if got := pids(all); got != "[2 1 4 3]" || l.Len() != 4 {
			t.Errorf("%s, %d", got, l.Len())
		}
	}
	for a := range all { // while it is being gone through
		if got := pids(all); got != "[2 1 4 3]" {
			t.Errorf("%v: %s", a, got)
		}
	}
	if got := drain(t, l); got != "[2 1 4 3]" {
		t.Error(got)
	}
}

func TestAllGivesWhatIsHeldThen(t *testing.T) { // P14.1
	l := New()
	all := l.All()
	if got := pids(all); got != "[]" {
		t.Error(got)
	}
	l.Push(api.Event{Kind: 5, Pid: 1, Unit: "a"})
	l.Push(api.Event{Kind: 1, Pid: 2, Unit: "b"})
	if got := pids(all); got != "[2 1]" {
		t.Error(got)
	}
	l.Next()
	if got := pids(all); got != "[1]" {
		t.Error(got)
	}
	l.Forget("a")
	if got := pids(all); got != "[]" {
		t.Error(got)
	}
}

// checkLeft: that nothing more is given to who leaves, at each place.
func checkLeft[T comparable](t *testing.T, all iter.Seq[T]) {
	t.Helper()
	whole := slices.Collect(all)
	for most := 1; most <= len(whole); most++ {
		var got []T
		all(func(v T) bool {
			got = append(got, v)
			return len(got) < most
		})
		if !slices.Equal(got, whole[:most]) {
			t.Errorf("left at %d: %v of %v", most, got, whole)
		}
	}
	if again := slices.Collect(all); !slices.Equal(again, whole) {
		t.Errorf("%v became %v", whole, again)
	}
}

func TestIteratorsAreLeft(t *testing.T) { // P14.1, P14.2
	l := of(t, 5, 1, 6, 5, 2)
	for i, unit := range []string{"c", "a", "b", "a"} {
		l.Set(unit, fmt.Sprint(i), int64(i%2))
	}
	checkLeft(t, l.All())
	checkLeft(t, l.Timers())
	if n := len(slices.Collect(l.Timers())); n != 4 || l.Len() != 5 {
		t.Errorf("%d timers, %d events", n, l.Len())
	}
}

func TestSetAndAt(t *testing.T) { // P14.2
	for _, at := range []int64{first, first + 1, -1, 0, 1, 5, never - 1, never} {
		for _, k := range []timer{{"a.service", "main"}, {"", ""}, {"a", ""}, {"", "a"}, {"\x00", "\xff"}, {strings.Repeat("u", 5000), strings.Repeat("w", 5000)}} {
			l := New()
			l.Set(k.unit, k.which, 7)
			l.Set(k.unit, k.which, at)
			if got := l.At(k.unit, k.which); got != at || l.Soonest() != at {
				t.Errorf("%q: %d, %d, wanted %d", k, got, l.Soonest(), at)
			}
			want := []api.Due{{Unit: k.unit, Which: k.which, At: at}}
			if at == never {
				want = nil
			}
			if got := slices.Collect(l.Timers()); !slices.Equal(got, want) {
				t.Errorf("%q, %d: %v", k, at, got)
			}
		}
	}
}

func TestTimersAreByUnitAndWhich(t *testing.T) { // P14.2: both, apart
	l := New()
	keys := []timer{{"ab", "c"}, {"a", "bc"}, {"abc", ""}, {"", "abc"}, {"c", "ab"}, {"a", ""}, {"", "a"}, {"a", "a"}, {"", ""}, {"a\x00", "b"}, {"a", "\x00b"}, {"A", "a"}}
	for i, k := range keys {
		if got := l.At(k.unit, k.which); got != never {
			t.Errorf("%q is set to %d", k, got)
		}
		l.Set(k.unit, k.which, int64(i))
	}
	for i, k := range keys {
		if got := l.At(k.unit, k.which); got != int64(i) {
			t.Errorf("%q: %d, wanted %d", k, got, i)
		}
	}
	for i, k := range keys {
		l.Set(k.unit, k.which, never)
		if got := l.At(k.unit, k.which); got != never || len(slices.Collect(l.Timers())) != len(keys)-i-1 {
			t.Errorf("%q: %d", k, got)
		}
	}
	checkUnset(t, l)
}

func TestSetOfForeverUnsets(t *testing.T) { // P14.2
	l := New()
	l.Set("a", "main", never) // it wasn't set
	checkUnset(t, l)
	l.Set("a", "main", 3)
	l.Set("a", "watch", 3)
	l.Set("a", "main", never)
	l.Set("a", "main", never)
	if l.At("a", "main") != never || l.At("a", "watch") != 3 || l.Soonest() != 3 || l.Forget("a") != 1 {
		t.Error(say(l))
	}
	l.Set("a", "main", 4)
	if l.At("a", "main") != 4 {
		t.Error(say(l))
	}
}

func TestATimerIsSetToOneTime(t *testing.T) { // P14.2, P14.3: the last one that was set
	for _, row := range [][]int64{{5, 7}, {7, 5}, {5, 5}, {5, 7, 5}, {5, never, 7}, {1, 2, 3, 4, 5}, {5, 4, 3, 2, 1}, {first, never - 1}} {
		l := New()
		for _, at := range row {
			l.Set("a", "main", at)
		}
		last := row[len(row)-1]
		want := []api.Due{{Unit: "a", Which: "main", At: last}}
		if got := slices.Collect(l.Timers()); !slices.Equal(got, want) || l.At("a", "main") != last || l.Soonest() != last {
			t.Errorf("%v: %v", row, got)
		}
		if got := l.Elapse(last - 1); len(got) != 0 {
			t.Errorf("%v: %v elapsed ahead of %d", row, got, last)
		}
		if got := l.Elapse(never); !slices.Equal(got, want) {
			t.Errorf("%v: %v elapsed", row, got)
		}
		checkUnset(t, l)
	}
}

func TestTimersAreInOrder(t *testing.T) { // P14.2: rows that are in order; they are told so, however they were set
	for _, row := range [][]api.Due{
		{},
		{{Unit: "z", Which: "z", At: first}, {Unit: "y", Which: "y", At: first + 1}, {Unit: "x", Which: "x", At: -1}, {Unit: "w", Which: "w", At: 0}, {Unit: "a", Which: "a", At: 1}, {Unit: "", Which: "", At: never - 1}},
		{{Unit: "", Which: "z", At: 5}, {Unit: "A", Which: "z", At: 5}, {Unit: "a", Which: "z", At: 5}, {Unit: "a\x00", Which: "y", At: 5}, {Unit: "aa", Which: "x", At: 5}, {Unit: "b", Which: "w", At: 5}, {Unit: "\x80", Which: "", At: 5}, {Unit: "\xff", Which: "", At: 5}},
		{{Unit: "a", Which: "", At: 5}, {Unit: "a", Which: "A", At: 5}, {Unit: "a", Which: "a", At: 5}, {Unit: "a", Which: "a\x00", At: 5}, {Unit: "a", Which: "aa", At: 5}, {Unit: "a", Which: "b", At: 5}, {Unit: "a", Which: "\xc3\xa4", At: 5}, {Unit: "a", Which: "\xff", At: 5}},
		{{Unit: "b", Which: "x", At: 1}, {Unit: "a", Which: "y", At: 2}, {Unit: "b", Which: "w", At: 2}, {Unit: "a", Which: "x", At: 3}},
		{{Unit: "a.service", Which: "main", At: 7}, {Unit: "a.service", Which: "watch", At: 7}, {Unit: "b.timer", Which: "main", At: 7}, {Unit: "a.timer", Which: "main", At: 70}},
	} {
		for seed := range 20 {
			l := New()
			for _, i := range rand.New(rand.NewSource(int64(seed))).Perm(len(row)) {
				l.Set(row[i].Unit, row[i].Which, row[i].At)
			}
			if got := slices.Collect(l.Timers()); !slices.Equal(got, row) {
				t.Fatalf("%v became %v", row, got)
			}
			if len(row) > 0 && l.Soonest() != row[0].At {
				t.Fatalf("%v: Soonest %d", row, l.Soonest())
			}
			if got := l.Elapse(never - 1); !slices.Equal(got, row) {
				t.Fatalf("%v: %v elapsed", row, got)
			}
		}
	}
}

func TestTimersTakesNothingOut(t *testing.T) { // P14.2: and it gives what is set then
	l := New()
	all := l.Timers()
	if got := slices.Collect(all); len(got) != 0 {
		t.Error(got)
	}
	l.Set("b", "x", 2)
	l.Set("a", "x", 1)
	for d := range all { // while it is being gone through
		if got := fmt.Sprint(slices.Collect(all)); got != "[{a x 1} {b x 2}]" {
			t.Errorf("%v: %s", d, got)
		}
	}
	l.Set("b", "x", 0)
	if got := fmt.Sprint(slices.Collect(all)); got != "[{b x 0} {a x 1}]" {
		t.Error(got)
	}
	l.Elapse(0)
	if got := fmt.Sprint(slices.Collect(all)); got != "[{a x 1}]" {
		t.Error(got)
	}
	l.Forget("a")
	if got := slices.Collect(all); len(got) != 0 {
		t.Error(got)
	}
}

func TestElapseIsAtItsTime(t *testing.T) { // P14.2, P14.3: not ahead of it, and once
	for _, at := range []int64{first, first + 1, -5, -1, 0, 1, 5, never - 1} {
		l := New()
		l.Set("a", "main", at)
		want := []api.Due{{Unit: "a", Which: "main", At: at}}
		if at > first {
			for _, now := range []int64{first, at - 1} {
				if got := l.Elapse(now); len(got) != 0 || l.At("a", "main") != at {
					t.Errorf("%d elapsed at %d: %v", at, now, got)
				}
			}
		}
		if got := l.Elapse(at); !slices.Equal(got, want) {
			t.Errorf("%d: %v", at, got)
		}
		if l.At("a", "main") != never {
			t.Errorf("%d is set still", at)
		}
		checkUnset(t, l)
		l.Set("a", "main", at) // it is set anew, to a time that has gone by
		if got := l.Elapse(at + 1); !slices.Equal(got, want) {
			t.Errorf("%d, anew: %v", at, got)
		}
		checkUnset(t, l)
	}
}

func TestElapseLeavesLaterOnes(t *testing.T) { // P14.2, P14.3
	l := New()
	for i, unit := range []string{"d", "b", "c", "a", "e", "b"} {
		l.Set(unit, fmt.Sprint(i), int64(i/2))
	}
	l.Push(api.Event{Kind: 5, Unit: "a"})
	for _, row := range []struct {
		now           int64
		told, soonest string
	}{
		{-1, "[]", "0"},
		{0, "[{b 1 0} {d 0 0}]", "1"},
		{0, "[]", "1"},
		{2, "[{a 3 1} {c 2 1} {b 5 2} {e 4 2}]", fmt.Sprint(never)},
		{-1, "[]", fmt.Sprint(never)},
		{never, "[]", fmt.Sprint(never)},
	} {
		if got := fmt.Sprint(l.Elapse(row.now)); got != row.told || fmt.Sprint(l.Soonest()) != row.soonest {
			t.Errorf("%d: %s, %d", row.now, got, l.Soonest())
		}
	}
	if l.Len() != 1 {
		t.Error("an event is gone")
	}
}

func TestElapsedAreOfTheirOwn(t *testing.T) { // P14.2: new memory, its spare room too
	l := New()
	for i := range 5 {
		l.Set("a", fmt.Sprint(i), int64(i))
	}
	spoil := func(list []api.Due) {
		for i := range list[:cap(list)] {
			list[:cap(list)][i] = api.Due{Unit: "x", Which: "x", At: -7}
		}
	}
	one := l.Elapse(2)
	rest := say(l)
	kept := slices.Clone(one)
	two := l.Elapse(1)
	spoil(two)
	if !slices.Equal(one, kept) || say(l) != rest {
		t.Errorf("%v became %v, %s became %s", kept, one, rest, say(l))
	}
	spoil(one)
	three := l.Elapse(4)
	if say(l) != say(New()) || fmt.Sprint(three) != "[{a 3 3} {a 4 4}]" {
		t.Errorf("%v, %s", three, say(l))
	}
	spoil(one)
	if fmt.Sprint(three) != "[{a 3 3} {a 4 4}]" {
		t.Error(three)
	}
}

func TestSoonest(t *testing.T) { // P14.2
	for _, row := range []struct {
		ats  []int64
		want int64
	}{
		{nil, never},
		{[]int64{never}, never},
		{[]int64{never - 1}, never - 1},
		{[]int64{never, 5}, 5},
		{[]int64{3, 1, 2}, 1},
		{[]int64{0, -1, 1}, -1},
		{[]int64{5, first, never - 1}, first},
		{[]int64{0, 0}, 0},
	} {
		l := New()
		for i, at := range row.ats {
			l.Set(fmt.Sprint("u", i), "main", at)
		}
		if got := l.Soonest(); got != row.want {
			t.Errorf("%v: %d", row.ats, got)
		}
	}
}

// filled: events and timers of several units; Text and Which bear units' names too.
func filled(t *testing.T) *Loop {
	t.Helper()
	l := New()
	for i, unit := range []string{"a", "b", "ab", "", "a", "b", "A"} {
		if err := l.Push(api.Event{Kind: 6 - i%3, Pid: i, Unit: unit, Text: "a"}); err != 0 {
			t.Fatal(err)
		}
		l.Set(unit, "a", int64(9-i))
		l.Set(unit, fmt.Sprint(i), 4)
	}
	return l
}

func TestForget(t *testing.T) { // P14.2
	const all = "[{A a 3} { 3 4} {A 6 4} {a 0 4} {a 4 4} {ab 2 4} {b 1 4} {b 5 4} {b a 4} {a a 5} { a 6} {ab a 7}]"
	for _, row := range []struct {
		unit         string
		count        int
		told, timers string
	}{
		{"a", 5, "[2 5 1 3 6]", "[{A a 3} { 3 4} {A 6 4} {ab 2 4} {b 1 4} {b 5 4} {b a 4} { a 6} {ab a 7}]"},
		{"b", 5, "[2 4 0 3 6]", "[{A a 3} { 3 4} {A 6 4} {a 0 4} {a 4 4} {ab 2 4} {a a 5} { a 6} {ab a 7}]"},
		{"ab", 3, "[5 1 4 0 3 6]", "[{A a 3} { 3 4} {A 6 4} {a 0 4} {a 4 4} {b 1 4} {b 5 4} {b a 4} {a a 5} { a 6}]"},
		{"", 3, "[2 5 1 4 0 6]", "[{A a 3} {A 6 4} {a 0 4} {a 4 4} {ab 2 4} {b 1 4} {b 5 4} {b a 4} {a a 5} {ab a 7}]"},
		{"A", 3, "[2 5 1 4 0 3]", "[{ 3 4} {a 0 4} {a 4 4} {ab 2 4} {b 1 4} {b 5 4} {b a 4} {a a 5} { a 6} {ab a 7}]"},
		{"c", 0, "[2 5 1 4 0 3 6]", all},
		{"a ", 0, "[2 5 1 4 0 3 6]", all},
		{"a\x00", 0, "[2 5 1 4 0 3 6]", all},
		{"0", 0, "[2 5 1 4 0 3 6]", all},
	} {
		l := filled(t)
		if got := l.Forget(row.unit); got != row.count {
			t.Errorf("%q: %d, wanted %d", row.unit, got, row.count)
		}
		if got := fmt.Sprint(slices.Collect(l.Timers())); got != row.timers || l.At(row.unit, "a") != never {
			t.Errorf("%q: %s", row.unit, got)
		}
		if got := l.Forget(row.unit); got != 0 {
			t.Errorf("%q again: %d", row.unit, got)
		}
		if got := drain(t, l); got != row.told {
			t.Errorf("%q: %s", row.unit, got)
		}
	}
}

func TestForgetOfOneKindOfThing(t *testing.T) { // P14.2: events alone, timers alone, none
	l := New()
	l.Push(api.Event{Kind: 1, Unit: "a"})
	l.Push(api.Event{Kind: 6, Unit: "a"})
	l.Set("b", "main", 1)
	l.Set("b", "watch", first)
	l.Set("b", "x", never)
	if n := l.Forget("a"); n != 2 || l.Len() != 0 || l.Soonest() != first {
		t.Errorf("%d, %s", n, say(l))
	}
	if n := l.Forget("b"); n != 2 {
		t.Error(n)
	}
	checkUnset(t, l)
	l.Set("b", "main", 6) // what is forgotten may come again
	l.Push(api.Event{Kind: 3, Pid: 8, Unit: "a"})
	if e, ok := l.Next(); e.Pid != 8 || !ok || l.At("b", "main") != 6 {
		t.Errorf("%v, %v, %s", e, ok, say(l))
	}
	if n := l.Forget("b"); n != 1 {
		t.Error(n)
	}
}

func TestEventsAndTimersAreApart(t *testing.T) { // P14.1, P14.2: an ETimer isn't a timer
	l := New()
	l.Push(api.Event{Kind: api.ETimer, Unit: "a", Text: "main"})
	checkUnset(t, l)
	if l.At("a", "main") != never {
		t.Error("an event set a timer")
	}
	l.Set("a", "main", 1)
	l.Next()
	if l.At("a", "main") != 1 {
		t.Error("Next unset a timer")
	}
	l.Elapse(1)
	checkNone(t, l)
}

func TestLoopsAreApart(t *testing.T) { // P14.1, P14.2
	a, b := New(), New()
	a.Push(api.Event{Kind: 1, Unit: "a"})
	a.Set("a", "main", 1)
	checkNone(t, b)
	checkUnset(t, b)
	b.Push(api.Event{Kind: 2, Unit: "a"})
	b.Set("a", "main", 2)
	if b.Forget("a") != 2 || a.Len() != 1 || a.At("a", "main") != 1 {
		t.Error(say(a))
	}
}

func TestZeroLoopIsAsNew(t *testing.T) { // no call panics
	var l Loop
	checkNone(t, &l)
	checkUnset(t, &l)
	l.Set("a", "main", never)
	if l.Forget("a") != 0 || l.At("a", "main") != never || l.Push(api.Event{}) != 140 {
		t.Error(say(&l))
	}
	l.Push(api.Event{Kind: 5, Pid: 1})
	l.Push(api.Event{Kind: 1, Pid: 2})
	l.Set("a", "main", 3)
	if l.At("a", "main") != 3 || pids(l.All()) != "[2 1]" || drain(t, &l) != "[2 1]" {
		t.Error(say(&l))
	}
	var other Loop
	other.Set("a", "main", 3)
	other.Push(api.Event{Kind: 1, Unit: "a"})
	if other.Forget("a") != 2 {
		t.Error(say(&other))
	}
}

func TestEachEventOnceEachTimerAtItsTime(t *testing.T) { // P14.3: with a clock that goes on by one
	for seed := range 50 {
		r := rand.New(rand.NewSource(int64(seed)))
		l := New()
		told := make([]int, 200)
		waits := 0 // of these events, how many were pushed
		due := map[timer]int64{}
		for now := range int64(60) {
			for range r.Intn(4) {
				k := timer{fmt.Sprint("u", r.Intn(5)), fmt.Sprint("w", r.Intn(3))}
				due[k] = now + int64(r.Intn(8))
				l.Set(k.unit, k.which, due[k])
				l.Push(api.Event{Kind: 1 + r.Intn(6), Pid: waits})
				waits++
			}
			for _, d := range l.Elapse(now) {
				k := timer{d.Unit, d.Which}
				if at, set := due[k]; !set || at != now || d.At != now {
					t.Fatalf("seed %d, %d: %v elapsed, set %v to %d", seed, now, d, set, at)
				}
				delete(due, k)
			}
			for k, at := range due {
				if at <= now {
					t.Fatalf("seed %d, %d: %v, set to %d, did not elapse", seed, now, k, at)
				}
			}
			for range r.Intn(4) {
				if e, ok := l.Next(); ok {
					told[e.Pid]++
				}
			}
		}
		for e, ok := l.Next(); ok; e, ok = l.Next() {
			told[e.Pid]++
		}
		for i, n := range told {
			if n != 1 && i < waits || n != 0 && i >= waits {
				t.Fatalf("seed %d: event %d of %d was told %d times", seed, i, waits, n)
			}
		}
	}
}

func TestMany(t *testing.T) { // P14.1, P14.2
	const count = 30000
	l := New()
	for i := range count {
		l.Push(api.Event{Kind: 1 + i*7919%6, Pid: i, Unit: fmt.Sprint(i % 10)})
		l.Set(fmt.Sprint(i%10), fmt.Sprintf("%05d", i/10), int64(i*7919%1000))
	}
	if n := l.Forget("3"); n != count/5 || l.Len() != count-count/10 {
		t.Errorf("%d, %d", n, l.Len())
	}
	last := api.Event{Kind: 1, Pid: -1}
	for e, ok := l.Next(); ok; e, ok = l.Next() {
		if e.Kind < last.Kind || e.Kind == last.Kind && e.Pid <= last.Pid {
			t.Fatalf("%v behind %v", e, last)
		}
		last = e
	}
	some := l.Elapse(499)
	rest := slices.Collect(l.Timers())
	if all := append(some, rest...); len(all) != count-count/10 || len(some) == 0 || some[len(some)-1].At != 499 || !slices.IsSortedFunc(all, func(a, b api.Due) int {
		if ahead(a, b) {
			return -1
		}
		return 1
	}) {
		t.Errorf("%d and %d", len(some), len(rest))
	}
}

// heap: how much is held.
func heap() uint64 {
	runtime.GC()
	var m runtime.MemStats
	runtime.ReadMemStats(&m)
	return m.HeapAlloc
}

func TestWhatIsGoneIsNotKept(t *testing.T) { // P14.3: and what is kept is what waits or is set
	const count, size = 3000, 1000
	long := func(i int) string { return fmt.Sprint(i) + strings.Repeat("x", size) }
	for name, do := range map[string]func(*Loop, int){
		"told":      func(l *Loop, i int) { l.Push(api.Event{Kind: 1 + i%6, Text: long(i)}); l.Next() },
		"forgotten": func(l *Loop, i int) { l.Push(api.Event{Kind: 1, Unit: long(i)}); l.Forget(long(i)) },
		"refused":   func(l *Loop, i int) { l.Push(api.Event{Kind: 7, Text: long(i)}) },
		"elapsed":   func(l *Loop, i int) { l.Set(long(i), "main", int64(i)); l.Elapse(int64(i)) },
		"unset":     func(l *Loop, i int) { l.Set("a", long(i), 5); l.Set("a", long(i), never) },
		"set anew":  func(l *Loop, i int) { l.Set("a", strings.Repeat("y", size), int64(i)) },
		"not set":   func(l *Loop, i int) { l.Set(long(i), "main", never) },
		"asked":     func(l *Loop, i int) { l.At(long(i), long(i)) },
		"all forgotten": func(l *Loop, i int) {
			l.Set(long(i), "main", 5)
			l.Set(long(i), "watch", 6)
			l.Forget(long(i))
		},
	} {
		l := New()
		l.Push(api.Event{Kind: 3, Pid: 1})
		l.Set("b", "main", never-1)
		before := heap()
		for i := range count {
			do(l, i)
		}
		for range l.All() {
		}
		for range l.Timers() {
		}
		if after := heap(); after > before+count*size/4 {
			t.Errorf("%s: %d bytes became %d", name, before, after)
		}
		runtime.KeepAlive(l)
	}
}
