package queue

import (
	"errors"
	"fmt"
	"math"
	"math/rand"
	"runtime"
	"slices"
	"strings"
	"testing"
	"weak"
)

func less(a, b int) bool { return a < b }

// of: a queue of integers by <, with these pushed in this order.
func of(numbers ...int) *Queue[int] {
	q := New(less)
	for _, n := range numbers {
		q.Push(n)
	}
	return q
}

// say: what All gives, as text.
func say[T any](q *Queue[T]) string { return fmt.Sprint(slices.Collect(q.All())) }

// drain: what Pop tells until nothing is left, as text.
func drain[T any](t *testing.T, q *Queue[T]) string {
	t.Helper()
	var all []T
	for left := q.Len(); left > 0; left-- {
		v, err := q.Pop()
		if err != 0 || q.Len() != left-1 {
			t.Fatalf("Pop: %v, %d; %d left, wanted %d", v, err, q.Len(), left-1)
		}
		all = append(all, v)
	}
	if _, err := q.Pop(); err != 130 {
		t.Fatalf("Pop of nothing: %d", err)
	}
	return fmt.Sprint(all)
}

func TestExample(t *testing.T) { // P13.1: the chapter's
	if n, err := of(3, 1, 2).Pop(); n != 1 || err != 0 {
		t.Errorf("%d, %d", n, err)
	}
}

// checkEmpty: that nothing is in it, whatever T is.
func checkEmpty[T any](t *testing.T, q *Queue[T], isZero func(T) bool) {
	t.Helper()
	for range 2 {
		v, err := q.Pop()
		w, ok := q.Peek()
		if !isZero(v) || err != 130 || !isZero(w) || ok || q.Len() != 0 {
			t.Errorf("%T: Pop %v, %d; Peek %v, %v; Len %d", v, v, err, w, ok, q.Len())
		}
		for x := range q.All() {
			t.Errorf("%T: %v is in it", v, x)
		}
		if n := q.Drop(func(T) bool { return true }); n != 0 {
			t.Errorf("%T: %d were dropped", v, n)
		}
	}
}

func isZero[T comparable](v T) bool {
	var zero T
	return v == zero
}

// checkEmpties: of a new queue, and of one that has become empty by Pop and by Drop.
func checkEmpties[T any](t *testing.T, values []T, isZero func(T) bool) {
	t.Helper()
	q := New(func(a, b T) bool { return false })
	checkEmpty(t, q, isZero)
	for _, v := range values {
		q.Push(v)
	}
	for range values {
		q.Pop()
	}
	checkEmpty(t, q, isZero)
	for _, v := range values {
		q.Push(v)
	}
	q.Drop(func(T) bool { return true })
	checkEmpty(t, q, isZero)
}

func TestNothingIsInIt(t *testing.T) { // P13.1
	one := 1
	checkEmpties(t, []int{3, 1, 2}, isZero)
	checkEmpties(t, []string{"b", "a", ""}, isZero)
	checkEmpties(t, []float64{1, math.NaN(), 0}, isZero)
	checkEmpties(t, []bool{true, false, true}, isZero)
	checkEmpties(t, []item{{1, 2}, {3, 4}}, isZero)
	checkEmpties(t, [][2]string{{"a", "b"}, {"c"}}, isZero)
	checkEmpties(t, []*int{&one, nil, &one}, isZero)
	checkEmpties(t, []any{1, "a", nil}, isZero)
	checkEmpties(t, []error{errors.New("e"), nil}, isZero)
	checkEmpties(t, [][]int{{1, 2}, nil, {}}, func(v []int) bool { return v == nil })
	checkEmpties(t, []map[int]int{{1: 2}, nil}, func(v map[int]int) bool { return v == nil })
	checkEmpties(t, []func(){func() {}, nil}, func(v func()) bool { return v == nil })
	checkEmpties(t, []struct{}{{}, {}}, isZero)
}

func TestPopIsByBefore(t *testing.T) { // P13.1, P13.2
	for _, row := range []struct {
		pushed []int
		want   string
	}{
		{[]int{}, "[]"},
		{[]int{7}, "[7]"},
		{[]int{1, 2}, "[1 2]"},
		{[]int{2, 1}, "[1 2]"},
		{[]int{1, 2, 3, 4, 5}, "[1 2 3 4 5]"},
		{[]int{5, 4, 3, 2, 1}, "[1 2 3 4 5]"},
		{[]int{3, 1, 2, 5, 4}, "[1 2 3 4 5]"},
		{[]int{2, 2, 1, 2, 1}, "[1 1 2 2 2]"}, // like ones are as many
		{[]int{0, -1, math.MaxInt, 1, math.MinInt}, fmt.Sprint([]int{math.MinInt, -1, 0, 1, math.MaxInt})},
	} {
		q := of(row.pushed...)
		if got := say(q); got != row.want || q.Len() != len(row.pushed) {
			t.Errorf("%v: All %s, Len %d", row.pushed, got, q.Len())
		}
		if got := drain(t, q); got != row.want {
			t.Errorf("%v: %s", row.pushed, got)
		}
	}
}

func TestEachOrderOfPushes(t *testing.T) { // P13.1, P13.2
	var rows func(row []int)
	rows = func(row []int) {
		if len(row) == 7 {
			if got := drain(t, of(row...)); got != "[0 1 2 3 4 5 6]" {
				t.Fatalf("%v: %s", row, got)
			}
			return
		}
		for n := range 7 {
			if !slices.Contains(row, n) {
				rows(append(slices.Clone(row), n))
			}
		}
	}
	rows(nil)
}

func TestOfSeveralThatWasPushedFirst(t *testing.T) { // P13.1, P13.2
	q := New(func(a, b string) bool { return a[0] < b[0] })
	for _, s := range strings.Fields("b1 a1 c1 b2 a2 a3 c2 b3") {
		q.Push(s)
	}
	if got := say(q); got != "[a1 a2 a3 b1 b2 b3 c1 c2]" {
		t.Error(got)
	}
	for _, want := range strings.Fields("a1 a2") {
		if s, err := q.Pop(); s != want || err != 0 {
			t.Errorf("%s, %d, wanted %s", s, err, want)
		}
	}
	for _, s := range strings.Fields("b4 a4 c3 a5") { // behind those that are left
		q.Push(s)
	}
	if got := drain(t, q); got != "[a3 a4 a5 b1 b2 b3 b4 c1 c2 c3]" {
		t.Error(got)
	}
}

func TestWithoutPriorityAsPushed(t *testing.T) { // P13.1, P13.2
	q := New(func(a, b int) bool { return false })
	for _, n := range []int{3, 1, 2, 1} {
		q.Push(n)
	}
	if got := say(q); got != "[3 1 2 1]" || drain(t, q) != got {
		t.Error(got)
	}
}

func TestOrderThatLeavesTwoOpen(t *testing.T) { // P13.1: none is ahead of a float that is no number, nor is it ahead of one
	nan := math.NaN()
	for _, row := range []struct {
		pushed []float64
		want   string
	}{
		{[]float64{2, nan, 1}, "[NaN 1 2]"}, // 2 was pushed first, but 1 is ahead of it
		{[]float64{2, 1, nan}, "[1 2 NaN]"},
		{[]float64{nan, 2, 1}, "[NaN 1 2]"},
		{[]float64{3, nan, 2, nan, 1}, "[NaN NaN 1 2 3]"},
		{[]float64{1, nan, 3, nan, 2}, "[1 NaN NaN 2 3]"},
		{[]float64{2, 1, nan, 0}, "[NaN 0 1 2]"},
		{[]float64{math.Inf(1), nan, math.Inf(-1)}, "[NaN -Inf +Inf]"},
	} {
		q := New(func(a, b float64) bool { return a < b })
		for _, v := range row.pushed {
			q.Push(v)
		}
		if v, ok := q.Peek(); fmt.Sprint(v) != strings.Trim(strings.Fields(row.want)[0], "[]") || !ok {
			t.Errorf("%v: Peek %v, %v", row.pushed, v, ok)
		}
		if got := say(q); got != row.want || drain(t, q) != got {
			t.Errorf("%v: %s, wanted %s", row.pushed, got, row.want)
		}
	}
}

func TestDropLetsAnotherOneAhead(t *testing.T) { // P13.1: what is left is popped as if the dropped one had never been in it
	q := New(func(a, b string) bool { return a == "u" && b == "x" })
	for _, s := range strings.Fields("x y u") {
		q.Push(s)
	}
	if got := say(q); got != "[y u x]" {
		t.Error(got)
	}
	if n := q.Drop(func(s string) bool { return s == "u" }); n != 1 || say(q) != "[x y]" {
		t.Errorf("%d, %s", n, say(q))
	}
}

func TestPeek(t *testing.T) { // P13.1
	q := of(2)
	for _, row := range []struct{ push, want int }{{3, 2}, {2, 2}, {1, 1}, {5, 1}, {0, 0}} {
		q.Push(row.push)
		for range 3 { // it stays
			if n, ok := q.Peek(); n != row.want || !ok {
				t.Errorf("%d, %v, wanted %d", n, ok, row.want)
			}
		}
	}
	if got := drain(t, q); got != "[0 1 2 2 3 5]" {
		t.Error(got)
	}
}

func TestLen(t *testing.T) { // P13.1
	q := New(less)
	for i := range 100 {
		if q.Len() != i {
			t.Fatalf("%d, wanted %d", q.Len(), i)
		}
		q.Push(i * 7 % 10)
	}
	q.Peek()
	say(q)
	if n := q.Drop(func(n int) bool { return n == 3 }); n != 10 || q.Len() != 90 {
		t.Errorf("%d, %d", n, q.Len())
	}
	for i := range 100 {
		if want := max(0, 90-i); q.Len() != want {
			t.Fatalf("%d, wanted %d", q.Len(), want)
		}
		q.Pop()
	}
}

func TestAllTakesNothingOut(t *testing.T) { // P13.1
	q := of(3, 1, 2, 1)
	for range 3 {
		if got := say(q); got != "[1 1 2 3]" || q.Len() != 4 {
			t.Errorf("%s, %d", got, q.Len())
		}
	}
	for range q.All() {
		break
	}
	if got := drain(t, q); got != "[1 1 2 3]" {
		t.Error(got)
	}
}

func TestAllIsLeftAndGoneThroughAgain(t *testing.T) { // P13.1
	q := of(4, 2, 3, 1, 2)
	want := []int{1, 2, 2, 3, 4}
	all := q.All()
	for most := range want {
		var got []int
		for n := range all {
			got = append(got, n)
			if len(got) > most {
				break
			}
		}
		if !slices.Equal(got, want[:most+1]) {
			t.Errorf("left at %d: %v", most, got)
		}
	}
	seen := 0
	for n := range all {
		if got := slices.Collect(all); n != want[seen] || !slices.Equal(got, want) {
			t.Errorf("within another: %d, %v", n, got)
		}
		if p, ok := q.Peek(); p != 1 || !ok || q.Len() != 5 {
			t.Errorf("Peek within: %d, %v; Len %d", p, ok, q.Len())
		}
		seen++
	}
	if seen != len(want) {
		t.Errorf("%d of %d", seen, len(want))
	}
}

func TestAllGivesWhatIsInItThen(t *testing.T) { // P13.1
	q := New(less)
	all := q.All()
	for i, row := range []struct {
		do   func()
		want string
	}{
		{func() {}, "[]"},
		{func() { q.Push(2) }, "[2]"},
		{func() { q.Push(1) }, "[1 2]"},
		{func() { q.Push(3) }, "[1 2 3]"},
		{func() { q.Pop() }, "[2 3]"},
		{func() { q.Peek() }, "[2 3]"},
		{func() { q.Push(1) }, "[1 2 3]"},
		{func() { q.Drop(func(n int) bool { return n == 2 }) }, "[1 3]"},
		{func() { q.Drop(func(n int) bool { return true }) }, "[]"},
		{func() { q.Push(5) }, "[5]"},
	} {
		row.do()
		if got := fmt.Sprint(slices.Collect(all)); got != row.want {
			t.Errorf("%d: %s, wanted %s", i, got, row.want)
		}
	}
}

func TestDrop(t *testing.T) { // P13.1
	numbers := []int{5, 3, 8, 1, 9, 2, 7, 3, 6, 4}
	for _, row := range []struct {
		name  string
		match func(int) bool
		count int
		want  string
	}{
		{"none", func(int) bool { return false }, 0, "[1 2 3 3 4 5 6 7 8 9]"},
		{"all", func(int) bool { return true }, 10, "[]"},
		{"the first", func(n int) bool { return n == 1 }, 1, "[2 3 3 4 5 6 7 8 9]"},
		{"the last", func(n int) bool { return n == 9 }, 1, "[1 2 3 3 4 5 6 7 8]"},
		{"two like ones", func(n int) bool { return n == 3 }, 2, "[1 2 4 5 6 7 8 9]"},
		{"even ones", func(n int) bool { return n%2 == 0 }, 4, "[1 3 3 5 7 9]"},
		{"odd ones", func(n int) bool { return n%2 == 1 }, 6, "[2 4 6 8]"},
		{"small ones", func(n int) bool { return n < 6 }, 6, "[6 7 8 9]"},
		{"great ones", func(n int) bool { return n > 2 }, 8, "[1 2]"},
		{"one that isn't there", func(n int) bool { return n == 10 }, 0, "[1 2 3 3 4 5 6 7 8 9]"},
	} {
		q := of(numbers...)
		if n := q.Drop(row.match); n != row.count || q.Len() != 10-n || say(q) != row.want {
			t.Errorf("%s: %d, %d, %s", row.name, n, q.Len(), say(q))
		}
		if n := q.Drop(row.match); n != 0 { // they are out
			t.Errorf("%s, again: %d", row.name, n)
		}
		q.Push(0)
		if n, err := q.Pop(); n != 0 || err != 0 {
			t.Errorf("%s: %d, %d", row.name, n, err)
		}
		if got := drain(t, q); got != row.want {
			t.Errorf("%s: %s, wanted %s", row.name, got, row.want)
		}
	}
}

func TestDroppedOthersKeepTheirOrder(t *testing.T) { // P13.1
	q := New(func(a, b item) bool { return a.n < b.n })
	for id := range 60 {
		q.Push(item{id * 7 % 4, id})
	}
	all := slices.Collect(q.All())
	for id := range 60 {
		gone := (id*11 + 5) % 60
		match := func(x item) bool { return x.id == gone }
		if n := q.Drop(match); n != 1 {
			t.Fatalf("%d: %d", gone, n)
		}
		all = slices.DeleteFunc(all, match)
		if got := slices.Collect(q.All()); !slices.Equal(got, all) {
			t.Fatalf("%v, wanted %v", got, all)
		}
	}
}

func TestMatchMayAskTheQueue(t *testing.T) { // P13.1: it changes nothing of it
	q := of(3, 1, 2)
	n := q.Drop(func(n int) bool {
		first, _ := q.Peek()
		return q.Len() == 3 && say(q) == "[1 2 3]" && n > first
	})
	if n != 2 || say(q) != "[1]" {
		t.Errorf("%d, %s", n, say(q))
	}
}

func TestElementsAreWhatWasPushed(t *testing.T) { // P13.1
	a, b := &item{1, 1}, &item{1, 1}
	q := New(func(x, y *item) bool { return x.n < y.n })
	q.Push(a)
	q.Push(b)
	if x, _ := q.Peek(); x != a {
		t.Error("Peek told another one")
	}
	if got := slices.Collect(q.All()); len(got) != 2 || got[0] != a || got[1] != b {
		t.Error("All gave others")
	}
	if n := q.Drop(func(x *item) bool { return x == a }); n != 1 {
		t.Error(n)
	}
	if x, err := q.Pop(); x != b || err != 0 {
		t.Error("Pop told another one")
	}
}

func TestQueuesAreApart(t *testing.T) { // P13.1
	a, b := of(2, 1), of(3)
	greater := New(func(a, b int) bool { return a > b })
	greater.Push(1)
	greater.Push(2)
	b.Push(0)
	a.Pop()
	a.Push(7)
	if say(a) != "[2 7]" || say(b) != "[0 3]" || say(greater) != "[2 1]" {
		t.Error(say(a), say(b), say(greater))
	}
}

func TestWhatIsPushedIsPoppedOnce(t *testing.T) { // P13.2
	r := rand.New(rand.NewSource(1))
	q := New(func(a, b item) bool { return a.n < b.n })
	const count = 20000
	seen := make([]int, count)
	pop := func() {
		if x, err := q.Pop(); err == 0 {
			seen[x.id]++
		}
	}
	for id := range count {
		q.Push(item{r.Intn(1000), id})
		if r.Intn(3) == 0 {
			pop()
		}
	}
	last := item{-1, -1}
	for q.Len() > 0 {
		x, _ := q.Peek()
		if x.n < last.n || x.n == last.n && x.id <= last.id {
			t.Fatalf("%v behind %v", x, last)
		}
		last = x
		pop()
	}
	if i := slices.IndexFunc(seen, func(n int) bool { return n != 1 }); i >= 0 {
		t.Errorf("%d was popped %d times", i, seen[i])
	}
}

func TestManyElements(t *testing.T) { // P13.1, P13.2: so many that each Pop must look at few of them
	const count = 100000
	perm := rand.New(rand.NewSource(2)).Perm(count)
	for name, number := range map[string]func(int) int{
		"rising":  func(i int) int { return i },
		"falling": func(i int) int { return count - 1 - i },
		"from both ends": func(i int) int {
			if i%2 == 0 {
				return i / 2
			}
			return count - 1 - i/2
		},
		"random": func(i int) int { return perm[i] },
	} {
		q := New(less)
		for i := range count {
			q.Push(number(i))
		}
		want := 0
		for n := range q.All() {
			if n != want {
				t.Fatalf("%s: All gave %d, wanted %d", name, n, want)
			}
			want++
		}
		if n := q.Drop(func(n int) bool { return n%2 == 1 }); n != count/2 || want != count {
			t.Fatalf("%s: %d, %d", name, n, want)
		}
		for want := 0; want < count; want += 2 {
			if n, err := q.Pop(); n != want || err != 0 {
				t.Fatalf("%s: %d, %d, wanted %d", name, n, err, want)
			}
		}
		if q.Len() != 0 {
			t.Errorf("%s: %d", name, q.Len())
		}
	}
}

func TestManyLikeElements(t *testing.T) { // P13.1, P13.2
	const count = 4000
	q := New(func(a, b int) bool { return false })
	for i := range count {
		q.Push(i)
	}
	q.Drop(func(n int) bool { return n%4 == 3 })
	for want := range count {
		if want%4 == 3 {
			continue
		}
		if n, err := q.Pop(); n != want || err != 0 {
			t.Fatalf("%d, %d, wanted %d", n, err, want)
		}
	}
}

func TestQueueInSteadyUse(t *testing.T) { // P13.1, P13.2: what is pushed is never ahead of what was popped
	r := rand.New(rand.NewSource(3))
	q := New(less)
	for range 500 {
		q.Push(r.Intn(1000))
	}
	last := 0
	for i := range 100000 {
		n, err := q.Pop()
		if n < last || err != 0 || q.Len() != 499 {
			t.Fatalf("%d: %d behind %d, %d", i, n, last, err)
		}
		last = n
		q.Push(n + r.Intn(1000000))
	}
}

func TestZeroQueueHasNoOrder(t *testing.T) { // P13.1: no call panics
	var q Queue[int]
	checkEmpty(t, &q, isZero)
	for _, n := range []int{3, 1, 2} {
		q.Push(n)
	}
	if n, ok := q.Peek(); n != 3 || !ok || say(&q) != "[3 1 2]" || q.Len() != 3 {
		t.Error(say(&q))
	}
	if n := q.Drop(func(n int) bool { return n == 1 }); n != 1 || drain(t, &q) != "[3 2]" {
		t.Error(n)
	}
}

func TestNoOrderLosesNothing(t *testing.T) { // P13.1: which one is popped isn't promised then, but calls end, and none panics
	for name, before := range map[string]func(a, b int) bool{
		"always":     func(a, b int) bool { return true },
		"at most":    func(a, b int) bool { return a <= b },
		"unlike":     func(a, b int) bool { return a != b },
		"in a ring":  func(a, b int) bool { return (a+1)%3 == b%3 },
		"the next":   func(a, b int) bool { return a+1 == b },
		"mixed bits": func(a, b int) bool { return (a*7+b*13)%5 < 2 },
	} {
		q := New(before)
		for i := range 300 {
			q.Push(i % 10)
		}
		all := slices.Sorted(q.All())
		q.Drop(func(n int) bool { return n == 4 })
		var got []int
		for q.Len() > 0 {
			n, err := q.Pop()
			if err != 0 {
				t.Fatalf("%s: %d", name, err)
			}
			got = append(got, n)
		}
		slices.Sort(got)
		want := slices.DeleteFunc(slices.Clone(all), func(n int) bool { return n == 4 })
		if len(all) != 300 || !slices.Equal(got, want) {
			t.Errorf("%s: %d were in it, %d were popped", name, len(all), len(got))
		}
	}
}

// held: how many of these are still held by somebody.
func held(all []weak.Pointer[item]) int {
	runtime.GC()
	count := 0
	for _, p := range all {
		if p.Value() != nil {
			count++
		}
	}
	return count
}

func TestWhatIsOutIsNotKept(t *testing.T) { // P13.2: and what is kept is what is in it
	const count = 1000
	for name, out := range map[string]func(*Queue[*item]){
		"popped": func(q *Queue[*item]) {
			for range count - 100 {
				q.Pop()
			}
		},
		"dropped": func(q *Queue[*item]) {
			if n := q.Drop(func(x *item) bool { return x.id >= 100 }); n != count-100 {
				t.Error(n)
			}
		},
		"both": func(q *Queue[*item]) {
			for range count / 2 {
				q.Pop()
			}
			for q.Len() > 100 {
				x, _ := q.Peek()
				q.Drop(func(y *item) bool { return x == y })
			}
		},
	} {
		for kinds := range 4 {
			q := New(func(a, b *item) bool { return a.n < b.n })
			var all []weak.Pointer[item]
			for i := range count {
				x := &item{i * 7919 % (1 + kinds*kinds*100), i}
				all = append(all, weak.Make(x))
				q.Push(x)
			}
			out(q)
			for range q.All() {
			}
			if got := held(all); got > 100 || q.Len() != 100 {
				t.Errorf("%s, %d: %d are held, %d are in it", name, kinds, got, q.Len())
			}
			runtime.KeepAlive(q)
		}
	}
}
