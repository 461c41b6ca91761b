package order

import (
	"fmt"
	"iter"
	"math"
	"runtime"
	"slices"
	"strings"
	"sync"
	"testing"
	"time"

	"reveille/api"
	"reveille/graph"
)

const (
	start   = api.JStart
	stop    = api.JStop
	restart = api.JRestart
)

// of: a graph of the units of the letters, Plain services; of each pair of letters the first comes after the second.
func of(t *testing.T, units, pairs string) *graph.Graph {
	t.Helper()
	g := graph.New()
	for _, letter := range units {
		u := api.Unit{Name: string(letter) + ".service", Kind: api.Service, Plain: true}
		for _, p := range strings.Fields(pairs) {
			if p[:1] == string(letter) {
				u.After = append(u.After, p[1:]+".service")
			}
		}
		if err := g.Add(u); err != 0 {
			t.Fatal(err)
		}
	}
	return g
}

// jobs: `a1 b2`: a start of a, a stop of b.
func jobs(text string) []api.Job {
	var l []api.Job
	for _, w := range strings.Fields(text) {
		l = append(l, api.Job{Unit: w[:1] + ".service", Kind: int(w[1] - '0')})
	}
	return l
}

// say: jobs as jobs reads them.
func say(l []api.Job) string {
	var words []string
	for _, j := range l {
		words = append(words, fmt.Sprintf("%s%d", strings.TrimSuffix(j.Unit, ".service"), j.Kind))
	}
	return strings.Join(words, " ")
}

func sayAll(l iter.Seq[api.Job]) string { return say(slices.Collect(l)) }

// saySort: `!` for a cycle.
func saySort(t *testing.T, g *graph.Graph, l []api.Job) string {
	t.Helper()
	sorted, err := Sort(g, l)
	if err == 0 {
		return say(sorted)
	}
	if err != 160 || len(sorted) != 0 {
		t.Errorf("Sort of %s told %v, %d", say(l), sorted, err)
	}
	return "!"
}

func TestWaitsByKinds(t *testing.T) { // P16.1: a and b of the units u and v
	both := func(a, b int) [2]int { return [2]int{a, b} }
	for _, row := range []struct {
		kinds                     [2]int
		none, uAfterV, vAfterU, x bool // x: both
	}{
		{both(start, start), false, true, false, true},
		{both(restart, start), false, true, false, true},
		{both(start, restart), false, true, false, true},
		{both(restart, restart), false, true, false, true},
		{both(stop, stop), false, false, true, true},
		{both(start, stop), false, true, true, true},
		{both(restart, stop), false, true, true, true},
		{both(stop, start), false, false, false, false},
		{both(stop, restart), false, false, false, false},
		{both(0, start), false, true, false, true}, // no such jobs: none of them is a JStop
		{both(stop, 0), false, false, false, false},
		{both(0, stop), false, true, true, true},
		{both(4, -2), false, true, false, true},
		{both(-2, 2), false, true, true, true},
		{both(math.MinInt, math.MaxInt), false, true, false, true},
		{both(1<<32+2, stop), false, true, true, true},
		{both(stop, 256+2), false, false, false, false},
	} {
		for pairs, want := range map[string]bool{"": row.none, "uv": row.uAfterV, "vu": row.vAfterU, "uv vu": row.x, "uw wu vw wv": false} {
			g := of(t, "uvw", pairs)
			a := api.Job{Id: 7, Unit: "u.service", Kind: row.kinds[0], Running: true}
			b := api.Job{Id: 3, Unit: "v.service", Kind: row.kinds[1]}
			if got := Waits(g, a, b); got != want {
				t.Errorf("kinds %v, %q: %v", row.kinds, pairs, got)
			}
			if got := len(slices.Collect(Ready(g, []api.Job{a, b}))); Waits(g, b, a) && want && got != 0 || want != Waits(g, b, a) && got != 1 || !want && !Waits(g, b, a) && got != 2 {
				t.Errorf("kinds %v, %q: %d are ready", row.kinds, pairs, got)
			}
		}
	}
}

func TestWaitsOfOneUnit(t *testing.T) { // P16.1
	g := of(t, "ab", "aa ab ba")
	for _, row := range []string{"a1 a1", "a1 a2", "a2 a1", "a2 a2", "a3 a2", "b1 b2"} {
		l := jobs(row)
		if Waits(g, l[0], l[1]) {
			t.Error(row)
		}
	}
}

func TestWaitsByRAfterAlone(t *testing.T) { // P16.1: of all kinds of edges
	u := api.Unit{Name: "a.service", Kind: api.Service, Plain: true}
	b := []string{"b.service"}
	u.Wants, u.Requires, u.BindsTo, u.PartOf, u.Conflicts = b, b, b, b, b
	g := graph.New()
	g.Add(u)
	l := jobs("a1 b2")
	if g.Add(api.Unit{Name: "b.service", Kind: api.Service, Plain: true}); Waits(g, l[0], l[1]) || Waits(g, l[1], l[0]) {
		t.Error("other edges make them wait")
	}
	if got := sayAll(Ready(g, l)) + "/" + saySort(t, g, jobs("b1 a1")) + "/" + say(Stuck(g, l)); got != "a1 b2/a1 b1/" {
		t.Error(got)
	}
	u.Before = b
	if g.Add(u); !Waits(g, l[0], l[1]) || Waits(g, l[1], l[0]) {
		t.Error("Before")
	}
	if got := sayAll(Ready(g, l)) + "/" + saySort(t, g, jobs("b1 a1")) + "/" + saySort(t, g, jobs("b2 a2")) + "/" + saySort(t, g, l); got != "b2/a1 b1/b2 a2/b2 a1" {
		t.Error(got)
	}
}

func TestWaitsByDefaults(t *testing.T) { // P16.1: what the graph's RAfters come from
	g := graph.New()
	for _, u := range []api.Unit{
		{Name: "a.service", Kind: api.Service},
		{Name: "a.socket", Kind: api.Socket, Target: "a.service"},
		{Name: "m.target", Kind: api.Target, Wants: []string{"a.socket"}},
	} {
		g.Add(u)
	}
	service, socket, target, last := api.Job{Unit: "a.service", Kind: start}, api.Job{Unit: "a.socket", Kind: start}, api.Job{Unit: "m.target", Kind: start}, api.Job{Unit: "shutdown.target", Kind: start}
	for _, row := range []struct {
		a, b api.Job
		want bool
	}{{service, socket, true}, {socket, service, false}, {target, socket, true}, {target, service, false}, {last, service, true}, {last, target, false}, {service, last, false}} {
		if got := Waits(g, row.a, row.b); got != row.want {
			t.Errorf("%v, %v: %v", row.a, row.b, got)
		}
	}
	service.Kind, socket.Kind, target.Kind = stop, stop, stop // all goes down
	sorted, err := Sort(g, []api.Job{service, socket, target, last})
	if want := []api.Job{service, target, socket, last}; err != 0 || !slices.Equal(sorted, want) {
		t.Errorf("%v, %d", sorted, err)
	}
	if ready := slices.Collect(Ready(g, []api.Job{last, target, socket, service})); !slices.Equal(ready, []api.Job{service, target}) {
		t.Error(ready)
	}
}

func TestOrders(t *testing.T) { // P16.2
	for _, row := range []struct {
		pairs, jobs, ready, sorted, stuck string
	}{
		{"", "", "", "", ""},
		{"ab", "", "", "", ""},
		{"", "b1", "b1", "b1", ""},
		{"", "c1 a2 b3", "a2 b3 c1", "a2 b3 c1", ""},
		{"ab ba", "a1 b1", "", "!", "a1 b1"}, // the chapter's example
		{"ab ba", "a1 b2", "b2", "b2 a1", ""},
		{"ab ba", "a2 b2", "", "!", "a2 b2"},
		{"ab ba", "a1 c1", "a1 c1", "a1 c1", ""}, // b has no job
		{"ab bc", "a1 c1", "a1 c1", "a1 c1", ""}, // nothing is handed on through b
		{"ab bc", "a1 b1 c1", "c1", "c1 b1 a1", ""},
		{"ab bc", "a2 b2 c2", "a2", "a2 b2 c2", ""},
		{"ab bc", "a1 b2 c1", "b2", "b2 a1 c1", ""},
		{"ab bc", "a2 b1 c2", "a2 c2", "a2 c2 b1", ""},
		{"ac", "a1 b1 c1", "b1 c1", "b1 c1 a1", ""}, // b doesn't wait until a can go
		{"ab", "a1 b1 c1", "b1 c1", "b1 a1 c1", ""}, // what comes to be ready goes ahead of what was
		{"ba ca ec ec", "e1 d1 c1 b1 a1", "a1 d1", "a1 b1 c1 d1 e1", ""},
		{"ae be ce de", "a1 b1 c1 d1 e1", "e1", "e1 a1 b1 c1 d1", ""},
		{"ea eb ec ed", "e1 d1 c1 b1 a1", "a1 b1 c1 d1", "a1 b1 c1 d1 e1", ""},
		{"ab ac bd cd", "a1 b1 c1 d1", "d1", "d1 b1 c1 a1", ""},
		{"ad ae be cd", "a1 b1 c1 d1 e1", "d1 e1", "d1 c1 e1 a1 b1", ""}, // two wait for one, one for two
		{"ab bc ca", "a1 b1 c1", "", "!", "a1 b1 c1"},
		{"ab bc ca", "a2 b2 c2", "", "!", "a2 b2 c2"},
		{"ab bc ca", "a1 b1 c2", "c2", "c2 b1 a1", ""},
		{"ab bc ca", "a1 b2 c2", "b2", "b2 c2 a1", ""},
		{"ab ba ca", "a1 b1 c1", "", "!", "a1 b1"},                         // c waits for a circle
		{"ab ba ac", "a1 b1 c1", "c1", "!", "a1 b1"},                       // a circle waits for c
		{"bc cb ab de", "a1 b1 c1 d1 e1", "e1", "!", "b1 c1"},              // others that have nothing to do with it
		{"ab ba bc cd dc", "a1 b1 c1 d1", "", "!", "a1 b1 c1 d1"},          // a circle that waits for one
		{"ab ba bc cd de ed", "a1 b1 c1 d1 e1", "", "!", "a1 b1 c1 d1 e1"}, // c stands between circles
		{"ab bc cb dc ed", "a1 b1 c1 d1 e1", "", "!", "b1 c1"},             // ends that go on
		{"ab ba cd dc", "a1 b1 c1 d1", "", "!", "a1 b1 c1 d1"},
		{"ab ba cd dc", "d1 c1 b2 a1", "b2", "!", "c1 d1"},
		{"ab bc cd de ea", "e3 d1 c3 b1 a1", "", "!", "a1 b1 c3 d1 e3"},
		{"ab bc cd de ea", "e3 d1 c2 b1 a1", "c2", "c2 b1 a1 e3 d1", ""},
	} {
		g, l := of(t, "abcde", row.pairs), jobs(row.jobs)
		for range max(1, len(l)) { // the order in which they are handed in doesn't count
			if got := sayAll(Ready(g, l)); got != row.ready {
				t.Errorf("%q: Ready of %s: %s", row.pairs, say(l), got)
			}
			if got := saySort(t, g, l); got != row.sorted {
				t.Errorf("%q: Sort of %s: %s", row.pairs, say(l), got)
			}
			if got := say(Stuck(g, l)); got != row.stuck {
				t.Errorf("%q: Stuck of %s: %s", row.pairs, say(l), got)
			}
			if len(l) > 0 {
				l = append(l[1:], l[0])
			}
		}
	}
}

func TestByUnit(t *testing.T) { // P16.2: rising byte by byte
	names := []string{"", "-.mount", "A.service", "_.service", "a", "a.service", "a.socket", "a0.service", "a@.service", "aa.service", "b.mount", "z", "\x7f", "\x80", "é.service", "\xff"}
	var l []api.Job
	for i, n := range names {
		l = append(l, api.Job{Id: i, Unit: n, Kind: start + i%3})
	}
	want := slices.Clone(l)
	slices.Reverse(l)
	g := of(t, "a", "")
	if got := slices.Collect(Ready(g, l)); !slices.Equal(got, want) {
		t.Errorf("Ready: %v", got)
	}
	if got, err := Sort(g, l); err != 0 || !slices.Equal(got, want) {
		t.Errorf("Sort: %v, %d", got, err)
	}
	var circle []string // each of them is of a circle with hub.service
	for _, n := range names {
		if strings.HasSuffix(n, ".service") && n != "é.service" {
			circle = append(circle, n)
		}
	}
	g.Add(api.Unit{Name: "hub.service", Plain: true, Kind: api.Service, After: circle, Before: circle})
	stuck := Stuck(g, []api.Job{{Unit: "hub.service", Kind: start}, {Unit: "aa.service", Kind: start}, {Unit: "_.service", Kind: restart}, {Unit: "z", Kind: start}, {Unit: "a@.service", Kind: start}, {Unit: "A.service", Kind: start}})
	if got := say(stuck); got != "A1 _3 a@1 aa1 hub1" {
		t.Error(got)
	}
}

func TestJobsAreWhole(t *testing.T) { // P16.2: all that a job tells
	g := of(t, "abc", "ab bc cb")
	l := []api.Job{{Id: -5, Unit: "c.service", Kind: 9, Running: true}, {Id: math.MaxInt, Unit: "b.service", Kind: 0}, {Id: 3, Unit: "a.service", Kind: stop, Running: true}, {Unit: "no unit"}}
	if got := slices.Collect(Ready(g, l)); !slices.Equal(got, []api.Job{l[2], l[3]}) {
		t.Error(got)
	}
	if got := Stuck(g, l); !slices.Equal(got, []api.Job{l[1], l[0]}) {
		t.Error(got)
	}
	l[0].Kind = stop
	if got, err := Sort(g, l); err != 0 || !slices.Equal(got, []api.Job{l[2], l[0], l[1], l[3]}) {
		t.Error(got, err)
	}
}

func TestUnitsThatAreNotThere(t *testing.T) { // P16.1, P16.2: edges count all the same
	g := of(t, "b", "bx")
	g.Add(api.Unit{Name: "c.service", Kind: api.Service, Plain: true, Before: []string{"y.service", "x.service"}})
	l := jobs("x1 y1 b1 c1 z1")
	if !Waits(g, l[2], l[0]) || !Waits(g, l[0], l[3]) || Waits(g, l[0], l[2]) {
		t.Error("Waits")
	}
	if got := sayAll(Ready(g, l)) + "/" + saySort(t, g, l) + "/" + say(Stuck(g, l)); got != "c1 z1/c1 x1 b1 y1 z1/" {
		t.Error(got)
	}
	g.Add(api.Unit{Name: "b.service", Kind: api.Service, Plain: true, After: []string{"x.service"}, Before: []string{"x.service"}})
	if got := sayAll(Ready(g, l)) + "/" + saySort(t, g, l) + "/" + say(Stuck(g, l)); got != "c1 z1/!/b1 x1" {
		t.Error(got)
	}
	g.Remove("b.service")
	g.Remove("c.service")
	if got := sayAll(Ready(g, l)) + "/" + saySort(t, g, l) + "/" + say(Stuck(g, l)); got != "b1 c1 x1 y1 z1/b1 c1 x1 y1 z1/" {
		t.Error(got)
	}
}

func TestGraphsWithoutUnits(t *testing.T) { // P16.1, P16.2
	for _, g := range []*graph.Graph{graph.New(), {}} {
		l := jobs("b2 a1")
		if Waits(g, l[0], l[1]) || Waits(g, l[1], l[0]) || Waits(g, api.Job{}, api.Job{}) {
			t.Error("Waits")
		}
		if got := sayAll(Ready(g, l)) + "/" + saySort(t, g, l) + "/" + say(Stuck(g, l)); got != "a1 b2/a1 b2/" {
			t.Error(got)
		}
		for _, none := range [][]api.Job{nil, {}} {
			if got := sayAll(Ready(g, none)) + "/" + saySort(t, g, none) + "/" + say(Stuck(g, none)); got != "//" {
				t.Error(got)
			}
		}
	}
}

func TestSeveralJobsOfOneUnitEnd(t *testing.T) { // nothing is promised of them, but that the calls end and tell the same again
	for _, pairs := range []string{"", "ab", "ab ba", "aa bb ab bc ca"} {
		g := of(t, "abc", pairs)
		for _, row := range []string{"a1 a1", "a1 a2 b1", "b1 a1 b2 a2", "a1 a1 a1 b1 b1 c2 c1", "a2 b2 c2 a2 b2 c2"} {
			l := jobs(row)
			first := sayAll(Ready(g, l)) + "/" + saySort(t, g, l) + "/" + say(Stuck(g, l))
			if again := sayAll(Ready(g, l)) + "/" + saySort(t, g, l) + "/" + say(Stuck(g, l)); again != first {
				t.Errorf("%s: %s, %s", row, first, again)
			}
		}
	}
}

func TestReadyGoesThroughTheGraphOfNow(t *testing.T) { // P16.2
	g := of(t, "abc", "ab")
	l := jobs("a1 b1 c1")
	ready := Ready(g, l)
	if got := sayAll(ready); got != "b1 c1" {
		t.Error(got)
	}
	g.Add(api.Unit{Name: "b.service", Kind: api.Service, Plain: true, After: []string{"c.service"}})
	if got := sayAll(ready); got != "c1" {
		t.Error(got)
	}
	g.Remove("a.service")
	if got := sayAll(ready); got != "a1 c1" {
		t.Error(got)
	}
}

func TestReadyIsLeftAndGoneThroughAgain(t *testing.T) { // P16.2
	g := of(t, "abcdef", "bf")
	ready := Ready(g, jobs("f1 e1 d1 c1 b1 a1"))
	all := slices.Collect(ready)
	for most := range len(all) + 1 {
		var got []api.Job
		for job := range ready {
			if len(got) == most {
				break
			}
			got = append(got, job)
		}
		if !slices.Equal(got, all[:most]) {
			t.Errorf("%d: %s", most, say(got))
		}
	}
	seen := ""
	for a := range ready {
		for b := range ready {
			if b.Unit > a.Unit {
				break
			}
			seen += say([]api.Job{a, b}) + ","
		}
	}
	if seen != "a1 a1,c1 a1,c1 c1,d1 a1,d1 c1,d1 d1,e1 a1,e1 c1,e1 d1,e1 e1,f1 a1,f1 c1,f1 d1,f1 e1,f1 f1," {
		t.Error(seen)
	}
	count := 0
	ready(func(api.Job) bool { count++; return false })
	if count != 1 {
		t.Errorf("%d told to one who had left", count)
	}
}

func TestWhatIsHandedInStays(t *testing.T) { // neither changed nor kept
	g := of(t, "abcd", "ab bc da ad")
	room := jobs("d1 c1 b1 a1 d2 c2 b2")
	was := slices.Clone(room)
	for n := range len(room) - 2 {
		l := room[:n]
		Sort(g, l)
		Stuck(g, l)
		sayAll(Ready(g, l))
		if !slices.Equal(room, was) {
			t.Fatalf("%d: %s", n, say(room))
		}
	}
	l := room[:4]
	ready := Ready(g, l)
	clear(room)
	if got := sayAll(ready); got != "c1" {
		t.Error(got)
	}
}

func TestAnswersAreNewMemory(t *testing.T) { // spare room too
	spoil := func(l []api.Job) {
		l = l[:cap(l)]
		for i := range l {
			l[i] = api.Job{Unit: "spoilt"}
		}
	}
	g := of(t, "abcde", "ab bc de ed")
	l := jobs("c1 b1 a1")
	for range 3 {
		sorted, err := Sort(g, l)
		if say(sorted) != "c1 b1 a1" || err != 0 {
			t.Fatal(say(sorted), err)
		}
		again, _ := Sort(g, l)
		spoil(sorted)
		if say(again) != "c1 b1 a1" || say(l) != "c1 b1 a1" {
			t.Fatal(say(again), say(l))
		}
	}
	l = jobs("e1 d1 a1")
	for range 3 {
		stuck, again := Stuck(g, l), Stuck(g, l)
		spoil(stuck)
		if say(again) != "d1 e1" || say(l) != "e1 d1 a1" {
			t.Fatal(say(again), say(l))
		}
	}
}

func TestGraphStays(t *testing.T) { // the calls look only
	g := of(t, "abc", "ab ba")
	sayGraph := func() string {
		text := fmt.Sprint(slices.Collect(g.Units()))
		for _, n := range []string{"a.service", "b.service", "c.service", "x.service"} {
			text += fmt.Sprint(slices.Collect(g.Edges(n)), slices.Collect(g.Into(n)))
		}
		return text
	}
	was := sayGraph()
	l := jobs("x1 a1 b1 c2")
	saySort(t, g, l)
	Stuck(g, l)
	sayAll(Ready(g, l))
	Waits(g, l[1], l[2])
	if now := sayGraph(); now != was {
		t.Errorf("%s became %s", was, now)
	}
}

func TestSeveralGoroutinesLook(t *testing.T) { // at one graph that isn't changed
	g := of(t, "abcde", "ab bc ed de")
	l := jobs("e1 d1 c1 b1 a1")
	before := runtime.NumGoroutine()
	var all sync.WaitGroup
	for range 8 {
		all.Go(func() {
			for range 100 {
				if got := sayAll(Ready(g, l)) + "/" + saySort(t, g, l) + "/" + say(Stuck(g, l)) + "/" + saySort(t, g, l[1:]); got != "c1/!/d1 e1/c1 b1 a1 d1" {
					t.Error(got)
				}
			}
		})
	}
	all.Wait()
	for range 100 { // those above may still be going
		if runtime.NumGoroutine() <= before {
			return
		}
		time.Sleep(time.Millisecond)
	}
	t.Errorf("%d goroutines, %d before", runtime.NumGoroutine(), before)
}

func TestManyJobs(t *testing.T) { // P16.2: a list has no bound here; to hold each with each would take long
	const many = 60000
	var early, late []string
	var l []api.Job
	for i := range many {
		early = append(early, fmt.Sprintf("n%05d.service", i))
		late = append(late, fmt.Sprintf("a%05d.service", i))
		l = append(l, api.Job{Unit: early[i], Kind: start}, api.Job{Unit: late[i], Kind: start})
	}
	g := graph.New()
	hub := api.Unit{Name: "z.service", Kind: api.Service, Plain: true, After: early, Before: late}
	g.Add(hub)
	l = append(l, api.Job{Unit: hub.Name, Kind: start})
	sorted, err := Sort(g, l)
	if err != 0 || len(sorted) != 2*many+1 || sorted[0].Unit != early[0] || sorted[many-1].Unit != early[many-1] || sorted[many].Unit != hub.Name || sorted[many+1].Unit != late[0] || sorted[2*many].Unit != late[many-1] {
		t.Fatal("Sort", len(sorted), err)
	}
	if n := len(slices.Collect(Ready(g, l))); n != many || len(Stuck(g, l)) != 0 {
		t.Errorf("%d are ready", n)
	}
	hub.Before = early
	g.Add(hub)
	if n := len(Stuck(g, l)); n != many+1 {
		t.Errorf("%d are stuck", n)
	}
	if _, err := Sort(g, l); err != 160 {
		t.Error(err)
	}
}

func TestInnerIteratorsAreLeft(t *testing.T) { // P16.2: at any point, with what stands in the heap in no order
	g := of(t, "abcdef", "af be cd")
	l := jobs("a1 b1 c1 d1 e1 f1")
	for a, b := range waits(g, l) {
		if a != 0 || b != 5 {
			t.Errorf("%d waits for %d", a, b)
		}
		break
	}
	for a, b := range turned(waits(g, l)) {
		if a != 5 || b != 0 {
			t.Errorf("turned: %d, %d", a, b)
		}
		break
	}
	r := rowOf(l, waits(g, l))
	for most := 1; most <= 3; most++ {
		for range r.out() {
			break
		}
		ready := slices.Collect(r.ready())
		if want := [][]int{{2, 4, 5}, {4, 5}, {1, 5}}[most-1]; !slices.Equal(ready, want) {
			t.Errorf("%d are out: %v", most, ready)
		}
	}
	r = rowOf(l, waits(g, l))
	r.front = places{3, 5, 4}
	if ready := slices.Collect(r.ready()); !slices.Equal(ready, []int{3, 4, 5}) {
		t.Error(ready)
	}
}
