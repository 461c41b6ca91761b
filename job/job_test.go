package job

import (
	"fmt"
	"iter"
	"math"
	"runtime"
	"slices"
	"strings"
	"sync"
	"testing"
	"time"

	"reveille/api"
	"reveille/graph"
)

const (
	start   = api.JStart
	stop    = api.JStop
	restart = api.JRestart
)

// of: a graph of Plain services. `a r:bc s:d` is a unit a: w Wants, r Requires, b BindsTo, p PartOf, c Conflicts, a After, f (Before).
func of(t *testing.T, units ...string) *graph.Graph {
	t.Helper()
	g := graph.New()
	for _, text := range units {
		if err := g.Add(unitOf(text)); err != 0 {
			t.Fatal(text, err)
		}
	}
	return g
}

func unitOf(text string) api.Unit {
	words := strings.Fields(text)
	u := api.Unit{Name: words[0] + ".service", Kind: api.Service, Load: api.Loaded, Plain: true}
	for _, w := range words[1:] {
		var names []string
		for _, letter := range w[2:] {
			names = append(names, string(letter)+".service")
		}
		switch w[0] {
		case 'w':
			u.Wants = names
		case 'r':
			u.Requires = names
		case 'b':
			u.BindsTo = names
		case 'p':
			u.PartOf = names
		case 'c':
			u.Conflicts = names
		case 'a':
			u.After = names
		case 'f':
			u.Before = names
		}
	}
	return u
}

// list: `a1 b2`: a start of a, a stop of b; Ids and Running that Add isn't to look at.
func list(text string) []api.Job {
	var l []api.Job
	for i, w := range strings.Fields(text) {
		l = append(l, api.Job{Id: 40 - 13*i, Unit: w[:1] + ".service", Kind: int(w[1] - '0'), Running: i%2 == 0})
	}
	return l
}

// held: `5a1 6b2r`: with Ids, and whether they run.
func held(text string) []api.Job {
	var l []api.Job
	for _, w := range strings.Fields(text) {
		rest, runs := strings.CutSuffix(w, "r")
		job := api.Job{Running: runs, Kind: int(rest[len(rest)-1] - '0'), Unit: rest[len(rest)-2:len(rest)-1] + ".service"}
		fmt.Sscan(rest[:len(rest)-2], &job.Id)
		l = append(l, job)
	}
	return l
}

// jobsOf: these jobs are there, and next is the next Id.
func jobsOf(t *testing.T, next int, text string) *Jobs {
	t.Helper()
	j := New(next)
	if err := j.Restore(held(text)); err != 0 {
		t.Fatal(text, err)
	}
	return j
}

// say: jobs as held reads them.
func say(l []api.Job) string {
	var words []string
	for _, job := range l {
		w := fmt.Sprint(job.Id, strings.TrimSuffix(job.Unit, ".service"), job.Kind)
		if job.Running {
			w += "r"
		}
		words = append(words, w)
	}
	return strings.Join(words, " ")
}

func sayAll(all iter.Seq[api.Job]) string { return say(slices.Collect(all)) }

// sayEnded: `5a1:4`: the job 5 ended with the result 4.
func sayEnded(l []api.Ended) string {
	var words []string
	for _, e := range l {
		words = append(words, fmt.Sprintf("%d%s%d:%d", e.Id, strings.TrimSuffix(e.Unit, ".service"), e.Kind, e.Result))
	}
	return strings.Join(words, " ")
}

// check: all that can be asked of j, without a graph.
func check(t *testing.T, what string, j *Jobs, all string, next int) {
	t.Helper()
	if got := sayAll(j.All()); got != all || j.Next() != next {
		t.Errorf("%s: %s, next %d; wanted %s, %d", what, got, j.Next(), all, next)
	}
	want := map[string]api.Job{}
	for job := range j.All() {
		want[job.Unit] = job
	}
	for _, unit := range []string{"a.service", "b.service", "c.service", "d.service", "e.service", "f.service", "", "a", "a.service ", "no name"} {
		job, there := j.Of(unit)
		if w, ok := want[unit]; job != w || there != ok {
			t.Errorf("%s: Of(%q): %v, %v; wanted %v, %v", what, unit, job, there, w, ok)
		}
	}
}

func TestNew(t *testing.T) { // P18.1
	for given, next := range map[int]int{math.MinInt: 1, -3: 1, -1: 1, 0: 1, 1: 1, 2: 2, 3: 3, 99: 99, 1 << 40: 1 << 40, math.MaxInt - 1: math.MaxInt - 1, math.MaxInt: math.MaxInt} {
		j := New(given)
		check(t, fmt.Sprint("New of ", given), j, "", next)
		if got := sayAll(j.Ready(graph.New())); got != "" {
			t.Error(got)
		}
		if ended := j.Add(list("b1 a2")[:1]); len(ended) != 0 || next == math.MaxInt {
			continue
		}
		check(t, fmt.Sprint("New and Add of ", given), j, fmt.Sprint(next, "b1"), next+1)
	}
}

func TestAdd(t *testing.T) { // P18.1
	for _, row := range []struct {
		was, added, ended, all string
		next                   int
	}{
		{"", "", "", "", 9},
		{"3a1", "", "", "3a1", 9},
		{"", "a1", "", "9a1", 10},
		{"", "c1 b2 a3", "", "9c1 10b2 11a3", 12}, // in order, not by unit
		{"3a1", "b1", "", "3a1 9b1", 10},
		{"3a1", "a1", "", "3a1", 9}, // that of its Kind stays
		{"3a2r", "a2", "", "3a2r", 9},
		{"3a3r", "a3", "", "3a3r", 9},
		{"3a1", "a2", "3a1:5", "9a2", 10}, // each other one gives way, the one that runs too
		{"3a1", "a3", "3a1:5", "9a3", 10},
		{"3a2", "a1", "3a2:5", "9a1", 10},
		{"3a2", "a3", "3a2:5", "9a3", 10},
		{"3a3", "a1", "3a3:5", "9a1", 10},
		{"3a3", "a2", "3a3:5", "9a2", 10},
		{"3a1r", "a2", "3a1:5", "9a2", 10},
		{"3a2r", "a3", "3a2:5", "9a3", 10},
		{"3a3r", "a1", "3a3:5", "9a1", 10},
		{"1a1 2b2r 3c3 4d1r", "c2 d2 a2 b1", "3c3:5 4d1:5 1a1:5 2b2:5", "9c2 10d2 11a2 12b1", 13}, // what ended is in order, too
		{"1a1 2b2 3c3", "a1 b1 c3 d1", "2b2:5", "1a1 3c3 9b1 10d1", 11},                           // what stays takes no Id
		{"", "a1 a1 a1", "", "9a1", 10},                                                           // several of one unit
		{"", "a1 a2", "9a1:5", "10a2", 11},
		{"3a3", "a1 a2 a2 a3 b1 a3", "3a3:5 9a1:5 10a2:5", "11a3 12b1", 13},
		{"3a1", "a2 a1", "3a1:5 9a2:5", "10a1", 11},
		{"", "a0 a4 a9", "", "", 9}, // no Kinds
		{"3a1", "a0 b4 c1 a5", "", "3a1 9c1", 10},
		{"3a1 4b2r", "a4 a0 b0 b2 a3", "3a1:5", "4b2r 9a3", 10},
	} {
		j := jobsOf(t, 9, row.was)
		if got := sayEnded(j.Add(list(row.added))); got != row.ended {
			t.Errorf("%s, Add of %s: ended %s, wanted %s", row.was, row.added, got, row.ended)
		}
		check(t, row.was+", Add of "+row.added, j, row.all, row.next)
	}
}

func TestAddTakesNoWrongKinds(t *testing.T) { // P18.1: they leave all as it was
	for _, kind := range []int{math.MinInt, -2, -1, 0, 4, 5, 8, 255, 256 + 1, 1<<32 + 1, math.MaxInt} {
		j := jobsOf(t, 9, "3a1 4b2r")
		if ended := j.Add([]api.Job{{Unit: "a.service", Kind: kind}, {Unit: "b.service", Kind: kind}, {Unit: "c.service", Kind: kind}}); len(ended) != 0 {
			t.Errorf("%d: %v", kind, ended)
		}
		check(t, fmt.Sprint("kind ", kind), j, "3a1 4b2r", 9)
	}
	for _, kind := range []int{start, stop, restart} {
		j := New(9)
		j.Add([]api.Job{{Kind: kind}, {Unit: "a.service", Kind: kind}, {Kind: kind}})
		check(t, "without a Unit", j, fmt.Sprint("9a", kind), 10)
	}
}

func TestAddTakesEachUnit(t *testing.T) { // P18.1: whatever it is called
	names := []string{"a.service", "A.service", "a", " ", "no name", "\x00", "\xff", "a.service\n", strings.Repeat("x", 1000), "é"}
	j := New(0)
	for i, n := range names {
		if ended := j.Add([]api.Job{{Unit: n, Kind: 1 + i%3}}); len(ended) != 0 {
			t.Errorf("%q: %v", n, ended)
		}
	}
	for i, n := range names {
		want := api.Job{Id: 1 + i, Unit: n, Kind: 1 + i%3}
		if got, there := j.Of(n); got != want || !there {
			t.Errorf("Of(%q): %v, %v", n, got, there)
		}
		if ended := j.Add([]api.Job{{Unit: n, Kind: 1 + (i+1)%3}}); !slices.Equal(ended, []api.Ended{{Id: want.Id, Unit: n, Kind: want.Kind, Result: api.RCanceled}}) {
			t.Errorf("%q: %v", n, ended)
		}
	}
	if j.Next() != 1+2*len(names) {
		t.Error(j.Next())
	}
}

func TestATurnedJobIsOfItsNewKind(t *testing.T) { // P18.1, P18.2
	g := graph.New()
	for added, want := range map[string]string{"a1": "/3a1r/9", "a3": "3a1:5/9a3/10", "a2": "3a1:5/9a2/10"} {
		j := jobsOf(t, 9, "3a3r")
		if err := j.Turn(3); err != 0 {
			t.Error(err)
		}
		if got := fmt.Sprint(sayEnded(j.Add(list(added))), "/", sayAll(j.All()), "/", j.Next()); got != want {
			t.Errorf("%s: %s, wanted %s", added, got, want)
		}
	}
	j := jobsOf(t, 9, "3a3r")
	j.Turn(3)
	if ended, err := j.End(g, 3, api.RDone); sayEnded(ended) != "3a1:1" || err != 0 {
		t.Error(ended, err)
	}
}

func TestIdsAreNotGivenAgain(t *testing.T) { // P18.1, P18.4
	j := New(5)
	g := of(t, "a", "b")
	j.Add(list("a1 b1"))
	j.End(g, 6, api.RDone)
	check(t, "6 ended", j, "5a1", 7)
	j.End(g, 5, api.RDone)
	check(t, "5 ended", j, "", 7)
	j.Add(list("b1"))
	check(t, "Add", j, "7b1", 8)
	j.Restore(nil)
	check(t, "Restore", j, "", 8)
	j.Add(list("a2 b3"))
	check(t, "Add", j, "8a2 9b3", 10)
}

func TestAllIsById(t *testing.T) { // P18.1
	j := jobsOf(t, 1<<40, "30a1 4b2r 1099511627775c3 1d1 11e2 100f1")
	check(t, "by Id", j, "1d1 4b2r 11e2 30a1 100f1 1099511627775c3", 1<<40)
	j.Add(list("d2 a3"))
	check(t, "by Id", j, "4b2r 11e2 100f1 1099511627775c3 1099511627776d2 1099511627777a3", 1<<40+2)
}

func TestAllGivesWhatIsThereThen(t *testing.T) { // P18.1, P18.2
	var zero Jobs
	g := of(t, "a", "b a:a", "c")
	for _, j := range []*Jobs{New(1), &zero} {
		all, ready := j.All(), j.Ready(g)
		for _, row := range []struct {
			act        func()
			all, ready string
		}{
			{func() {}, "", ""},
			{func() { j.Add(list("c2 b1 a1")) }, "1c2 2b1 3a1", "1c2 3a1"},
			{func() { j.Run(3) }, "1c2 2b1 3a1r", "1c2"},
			{func() { j.Run(1) }, "1c2r 2b1 3a1r", ""},
			{func() { j.End(g, 3, api.RDone) }, "1c2r 2b1", "2b1"},
			{func() { j.Restore(held("3a1 1b1 2c3r")) }, "1b1 2c3r 3a1", "3a1"},
			{func() { j.Turn(2) }, "1b1 2c1r 3a1", "3a1"},
			{func() { j.Restore(nil) }, "", ""},
			{func() { j.Add(list("b1 a2")) }, "4b1 5a2", "5a2"},
			{func() { g.Add(unitOf("b f:a")) }, "4b1 5a2", "5a2"},
			{func() { g.Remove("b.service") }, "4b1 5a2", "4b1 5a2"},
			{func() { g.Add(unitOf("b a:a")) }, "4b1 5a2", "5a2"},
		} {
			row.act()
			if got := sayAll(all); got != row.all {
				t.Errorf("All: %s, wanted %s", got, row.all)
			}
			if got := sayAll(ready); got != row.ready {
				t.Errorf("Ready: %s, wanted %s", got, row.ready)
			}
		}
	}
}

// checkLeft: that who leaves is told nothing more, at each place, and that one may be gone through within another one.
func checkLeft(t *testing.T, seq iter.Seq[api.Job]) {
	t.Helper()
	all := slices.Collect(seq)
	for most := 1; most <= len(all); most++ {
		var got []api.Job
		seq(func(job api.Job) bool {
			got = append(got, job)
			return len(got) < most
		})
		if !slices.Equal(got, all[:most]) {
			t.Errorf("left at %d: %s of %s", most, say(got), say(all))
		}
	}
	var outer []api.Job
	for a := range seq {
		outer = append(outer, a)
		var inner []api.Job
		for b := range seq {
			inner = append(inner, b)
			if b == a {
				break
			}
		}
		if !slices.Equal(inner, all[:len(outer)]) {
			t.Errorf("within: %s of %s", say(inner), say(all))
		}
	}
	if !slices.Equal(outer, all) || len(all) < 3 {
		t.Errorf("%s, then %s", say(all), say(outer))
	}
}

func TestIteratorsAreLeft(t *testing.T) { // P18.1, P18.2
	j := jobsOf(t, 50, "9a1 3b2 5c3r 7d1 1e1 12f2r")
	checkLeft(t, j.All())
	checkLeft(t, j.Ready(of(t, "a", "b")))
}

func TestReady(t *testing.T) { // P18.2
	for _, row := range []struct {
		units, jobs, ready string // the units apart by commas
	}{
		{"a,b", "", ""},
		{"a,b", "1a1", "1a1"},
		{"a,b", "1a1r", ""},
		{"a,b", "5a1 2b1 3c2", "2b1 3c2 5a1"},   // by Id, not by unit
		{"a,b", "5a1 2b1r 3c2", "3c2 5a1"},      // what runs isn't told
		{"a a:b,b", "1a1 2b1", "2b1"},           // order.Waits
		{"a a:b,b", "1a1 2b1r", ""},             // what runs is waited for
		{"a a:b,b", "1a1r 2b1", "2b1"},          // and nothing else keeps the other one
		{"a a:b,b", "1a1 2b2", "2b2"},           // a stop goes ahead
		{"a a:b,b", "1a2 2b1", "1a2"},           // at either end
		{"a a:b,b", "1a2 2b2", "1a2"},           // stops go the other way round
		{"a a:b,b", "1a2 2b2r", "1a2"},          //
		{"a a:b,b", "1a2r 2b2", ""},             //
		{"a a:b,b", "1a3 2b3", "2b3"},           // restarts go as starts
		{"a a:b,b", "1a3 2b2r", ""},             //
		{"a a:b,b", "1a2r 2b3", ""},             //
		{"a,b f:a", "1a1 2b1", "2b1"},           // Before is After
		{"a a:b,b a:a", "1a1 2b1", ""},          // a circle
		{"a a:b,b a:a", "1a1 2b1 3c1", "3c1"},   //
		{"a a:b,b a:c,c", "1a1 3c1", "1a1 3c1"}, // nothing is handed on through b, which has no job
		{"a a:b,b a:c,c", "9a1 5b1 3c1", "3c1"},
		{"a a:b,b a:c,c", "9a1 5b1 3c1r", ""},
		{"a a:b,b a:c,c", "9a1 5b1r 3c1", "3c1"},
		{"a a:b,b a:c,c", "9a2 5b1r 3c2", "3c2 9a2"},
		{"a a:bc", "3a1 2b1 1c1r", "2b1"},                 // of units that aren't there
		{"a r:b w:b b:b p:b c:b,b", "1a1 2b1", "1a1 2b1"}, // other edges keep none
		{"d", "4a1 3b3 2c2 1e1r", "2c2 3b3 4a1"},
		{"a a:f,b a:f,c a:f,d a:f,e a:f,f", "1a1 2b1 3c2 4d1 5e1 6f1", "3c2"},
		{"a a:f,b a:f,c a:f,d a:f,e a:f,f", "1a1 2b1 3c2r 4d1 5e1 6f1", ""},
		{"a a:f,b a:f,c a:f,d a:f,e a:f,f", "1a2 2b2 3c2r 4d2 5e2 6f2", "1a2 2b2 4d2 5e2"},
	} {
		g, j := of(t, strings.Split(row.units, ",")...), jobsOf(t, 50, row.jobs)
		if got := sayAll(j.Ready(g)); got != row.ready {
			t.Errorf("%s: %s: Ready %s, wanted %s", row.units, row.jobs, got, row.ready)
		}
		check(t, "Ready looks only", j, sayAll(jobsOf(t, 50, row.jobs).All()), 50)
	}
}

func TestReadyOfUnitsThatHaveNoName(t *testing.T) { // P18.2: no edge leads to them
	j := New(1)
	j.Add([]api.Job{{Unit: "no name", Kind: start}, {Unit: "\xff", Kind: stop}, {Unit: "a.service", Kind: start}, {Unit: "b.service", Kind: start}})
	g := of(t, "a", "b a:a")
	if got := sayAll(j.Ready(g)); got != "1no name1 2\xff2 3a1" {
		t.Error(got)
	}
	if got := sayAll(j.Ready(&graph.Graph{})); got != "1no name1 2\xff2 3a1 4b1" {
		t.Error(got)
	}
}

// ids: those that are there, and others.
var ids = []int{math.MinInt, -3, -1, 0, 1, 2, 3, 4, 5, 6, 7, 8, 9, 10, 256 + 3, 1<<32 + 3, math.MaxInt}

func TestRun(t *testing.T) { // P18.2
	const all = "3a1 4b2r 5c3 6d2"
	for _, id := range ids {
		j := jobsOf(t, 9, all)
		want, after := api.ErrJob, all
		switch id {
		case 3:
			want, after = 0, "3a1r 4b2r 5c3 6d2"
		case 5:
			want, after = 0, "3a1 4b2r 5c3r 6d2"
		case 6:
			want, after = 0, "3a1 4b2r 5c3 6d2r"
		}
		if err := j.Run(id); err != want {
			t.Errorf("Run(%d): %d", id, err)
		}
		check(t, fmt.Sprintf("Run(%d)", id), j, after, 9)
		if err := j.Run(id); err != api.ErrJob {
			t.Errorf("Run(%d) again: %d", id, err)
		}
		check(t, fmt.Sprintf("Run(%d) again", id), j, after, 9)
	}
}

func TestTurn(t *testing.T) { // P18.2
	const all = "3a1 4b2r 5c3 6d3r 7e1r 8f2"
	for _, id := range ids {
		j := jobsOf(t, 9, all)
		want, after := api.ErrJob, all
		if id == 6 {
			want, after = 0, "3a1 4b2r 5c3 6d1r 7e1r 8f2"
		}
		if err := j.Turn(id); err != want {
			t.Errorf("Turn(%d): %d", id, err)
		}
		check(t, fmt.Sprintf("Turn(%d)", id), j, after, 9)
		if err := j.Turn(id); err != api.ErrJob {
			t.Errorf("Turn(%d) again: %d", id, err)
		}
		check(t, fmt.Sprintf("Turn(%d) again", id), j, after, 9)
	}
	j := jobsOf(t, 9, "5c3")
	if first, run, second := j.Turn(5), j.Run(5), j.Turn(5); first != 180 || run != 0 || second != 0 { // it runs, then it turns
		t.Error(first, run, second)
	}
	check(t, "Run, Turn", j, "5c1r", 9)
	if err := j.Run(5); err != 180 {
		t.Error(err)
	}
}

func TestEndOfNoJob(t *testing.T) { // P18.2: ErrJob changes nothing
	g := of(t, "a", "b r:a")
	const all = "3a1r 4b1 5c3"
	for _, id := range ids {
		if id >= 3 && id <= 5 {
			continue
		}
		for _, result := range []int{0, 1, 2, 4, 6, 7} {
			j := jobsOf(t, 9, all)
			if ended, err := j.End(g, id, result); err != 180 || len(ended) != 0 {
				t.Errorf("End(%d, %d): %v, %d", id, result, ended, err)
			}
			check(t, fmt.Sprintf("End(%d, %d)", id, result), j, all, 9)
		}
	}
	for _, result := range []int{math.MinInt, -2, -1, 0, 7, 8, 99, 256 + 2, 1<<32 + 1, math.MaxInt} {
		for id := 3; id <= 5; id++ {
			j := jobsOf(t, 9, all)
			if ended, err := j.End(g, id, result); err != 180 || len(ended) != 0 {
				t.Errorf("End(%d, %d): %v, %d", id, result, ended, err)
			}
			check(t, fmt.Sprintf("End(%d, %d)", id, result), j, all, 9)
		}
	}
}

func TestEndByKindAndResult(t *testing.T) { // P18.2
	g := of(t, "a", "b r:a")
	for _, runs := range []string{"", "r"} {
		for kind := start; kind <= restart; kind++ {
			for result := api.RDone; result <= api.RSkipped; result++ {
				j := jobsOf(t, 9, fmt.Sprintf("5a%d%s 3b1", kind, runs))
				ended, left := fmt.Sprintf("5a%d:%d", kind, result), "3b1"
				if kind != stop && (result == api.RFailed || result == api.RTimeout || result == api.RDepend) {
					ended, left = ended+" 3b1:4", ""
				}
				got, err := j.End(g, 5, result)
				if sayEnded(got) != ended || err != 0 {
					t.Errorf("kind %d%s, result %d: %s, %d; wanted %s", kind, runs, result, sayEnded(got), err, ended)
				}
				check(t, ended, j, left, 9)
				if again, err := j.End(g, 5, result); err != 180 || len(again) != 0 { // P18.4
					t.Errorf("again: %v, %d", again, err)
				}
			}
		}
	}
}

func TestEndTakesOthersAlong(t *testing.T) { // P18.2: the first job is a's
	for _, row := range []struct {
		units, jobs, ended, left string // the units apart by commas
	}{
		{"a r:b,b", "1b1 2a1", "2a1:2", "1b1"}, // what a needs isn't touched
		{"a,b r:a", "1a1 2b1", "1a1:2 2b1:4", ""},
		{"a,b b:a", "1a1 2b1", "1a1:2 2b1:4", ""},
		{"a,b r:a", "1a1 2b3", "1a1:2 2b3:4", ""},
		{"a,b b:a", "1a1 2b3", "1a1:2 2b3:4", ""},
		{"a,b r:a", "1a1 2b2", "1a1:2", "2b2"}, // a stop needs nothing
		{"a,b b:a", "1a1 2b2", "1a1:2", "2b2"},
		{"a,b r:a", "1a1 2b1r", "1a1:2", "2b1r"}, // what runs goes on
		{"a,b b:a", "1a1 2b3r", "1a1:2", "2b3r"},
		{"a,b r:a", "1a1r 2b1", "1a1:2 2b1:4", ""},
		{"a,b w:a p:a c:a a:a f:a", "1a1 2b1", "1a1:2", "2b1"}, // other edges
		{"a c:b f:b w:b p:b a:b,b", "1a1 2b1", "1a1:2", "2b1"},
		{"a,b r:a b:a", "1a1 2b1", "1a1:2 2b1:4", ""}, // by both, ended once
		{"a r:b,b r:a", "1a1 2b1", "1a1:2 2b1:4", ""}, // each other
		{"a r:b b:c,b r:c,c b:a", "3a1 1b1 2c1", "3a1:2 1b1:4 2c1:4", ""},
		{"b r:a", "1a1 2b1", "1a1:2 2b1:4", ""},                                   // a isn't there
		{"a,b r:a,c r:b,d b:c", "1a1 2b1 3c3 4d1", "1a1:2 2b1:4 3c3:4 4d1:4", ""}, // and so on
		{"a,b r:a,c r:b", "1a1 3c1", "1a1:2", "3c1"},                              // b has no job, so no end goes on from it
		{"a,b r:a,c r:b", "1a1 2b1r 3c1", "1a1:2", "2b1r 3c1"},                    // or one that doesn't end
		{"a,b r:a,c r:b", "1a1 2b2 3c1", "1a1:2", "2b2 3c1"},
		{"a,b r:a,c r:b,c r:a", "1a1 2b1r 3c1", "1a1:2 3c1:4", "2b1r"}, // c is told anew
		{"a,b r:a,c r:ab", "1a1 2b1r 3c1", "1a1:2 3c1:4", "2b1r"},
		{"a,b r:a,c r:ab", "1a1 2b1 3c1", "1a1:2 2b1:4 3c1:4", ""},
		{"a,b r:a,c r:a,d r:a,e r:a", "9a1 2d1 4e1 6b1 8c3", "9a1:2 2d1:4 4e1:4 6b1:4 8c3:4", ""}, // the first one, then by Id
		{"a,b r:a,c r:b,d r:c,e r:d", "9a1 2c1 4b1 1e1 3d1", "9a1:2 1e1:4 2c1:4 3d1:4 4b1:4", ""},
		{"a,b r:a,c r:b,d r:c,e r:d", "5a1 7b1 6c1 3d1r 8e1", "5a1:2 6c1:4 7b1:4", "3d1r 8e1"},
		{"a,b r:a,c b:b,d w:c,e r:d", "5a1 7b1 6c1 3d1 8e1", "5a1:2 6c1:4 7b1:4", "3d1 8e1"},
		{"a,b,c r:b", "5a1 7b1 6c1", "5a1:2", "6c1 7b1"}, // nothing to do with a
		{"a,b r:a,f r:f", "5a1 7b1 6f1", "5a1:2 7b1:4", "6f1"},
	} {
		g := of(t, strings.Split(row.units, ",")...)
		for result := api.RFailed; result <= api.RDepend; result++ {
			j := jobsOf(t, 50, row.jobs)
			first, _ := j.Of("a.service")
			want := strings.Replace(row.ended, ":2", fmt.Sprint(":", result), 1)
			ended, err := j.End(g, first.Id, result)
			if got := sayEnded(ended); got != want || err != 0 {
				t.Errorf("%s: %s: ended %s, %d, wanted %s", row.units, row.jobs, got, err, want)
			}
			check(t, row.units+": "+row.jobs, j, row.left, 50)
		}
		for _, result := range []int{api.RDone, api.RCanceled, api.RSkipped} {
			j := jobsOf(t, 50, row.jobs)
			first, _ := j.Of("a.service")
			ended, err := j.End(g, first.Id, result)
			if len(ended) != 1 || err != 0 || len(slices.Collect(j.All())) != len(strings.Fields(row.jobs))-1 {
				t.Errorf("%s: %s: %v, %d", row.units, row.jobs, ended, err)
			}
		}
	}
}

func TestExample(t *testing.T) { // P18.2: the chapter's
	g := of(t, "a r:b", "b")
	j := New(1)
	j.Add(list("b1 a1"))
	ended, err := j.End(g, 1, api.RFailed)
	if !slices.Equal(ended, []api.Ended{{Id: 1, Unit: "b.service", Kind: start, Result: api.RFailed}, {Id: 2, Unit: "a.service", Kind: start, Result: api.RDepend}}) || err != 0 {
		t.Error(ended, err)
	}
	check(t, "the example", j, "", 3)
}

func TestEndGoesByTheGraphOfNow(t *testing.T) { // P18.2
	g := of(t, "a", "b r:a")
	j := jobsOf(t, 9, "1a1 2b1")
	g.Add(unitOf("b"))
	if ended, _ := j.End(g, 1, api.RFailed); sayEnded(ended) != "1a1:2" {
		t.Error(ended)
	}
	j.Add(list("a1"))
	g.Add(unitOf("b b:a"))
	if ended, _ := j.End(&graph.Graph{}, 9, api.RTimeout); sayEnded(ended) != "9a1:3" { // another graph
		t.Error(ended)
	}
	j.Add(list("a3"))
	if ended, _ := j.End(g, 10, api.RTimeout); sayEnded(ended) != "10a3:3 2b1:4" {
		t.Error(ended)
	}
}

func TestEndAtTheGraphsLimit(t *testing.T) { // P18.2: a chain of all units, each of which has a job
	for _, cut := range []int{0, 1, 20, api.MaxUnits - 1} {
		g, j := graph.New(), New(1)
		for i := range api.MaxUnits {
			u := api.Unit{Name: fmt.Sprintf("u%d.service", i), Kind: api.Service, Plain: true, Requires: []string{fmt.Sprintf("u%d.service", i-1)}}
			if err := g.Add(u); err != 0 {
				t.Fatal(err)
			}
		}
		for i := range api.MaxUnits { // from the end on: the least Id is the last unit's
			j.Add([]api.Job{{Unit: fmt.Sprintf("u%d.service", api.MaxUnits-1-i), Kind: start}})
		}
		if cut > 0 {
			job, _ := j.Of(fmt.Sprintf("u%d.service", cut))
			j.Run(job.Id)
		}
		ended, err := j.End(g, api.MaxUnits, api.RFailed)
		want := api.MaxUnits
		if cut > 0 {
			want = cut
		}
		if len(ended) != want || err != 0 || len(slices.Collect(j.All())) != api.MaxUnits-want {
			t.Fatalf("cut %d: %s, %d", cut, sayEnded(ended), err)
		}
		if !slices.IsSortedFunc(ended[1:], func(a, b api.Ended) int { return a.Id - b.Id }) || ended[0].Id != api.MaxUnits || ended[0].Result != api.RFailed {
			t.Errorf("cut %d: %s", cut, sayEnded(ended))
		}
	}
}

func TestRestore(t *testing.T) { // P18.3
	for _, row := range []string{"", "1a1", "8a1", "8a1r 7b2 6c3r", "1a1 2b1 3c1 4d1 5e1 6f2 7g3r 8h3", "3a3 8b3r 1c2"} {
		j := jobsOf(t, 9, "2a1 3b2r 5c3 8d1")
		l := held(row)
		if err := j.Restore(l); err != 0 {
			t.Errorf("%s: %d", row, err)
		}
		slices.SortFunc(l, func(a, b api.Job) int { return a.Id - b.Id })
		check(t, row, j, say(l), 9)
		for _, job := range l { // the others are gone
			if err := j.Run(job.Id); (err == 0) == job.Running {
				t.Errorf("%s: Run(%d): %d", row, job.Id, err)
			}
		}
		if j.Run(10) != 180 || len(l) == 0 && j.Run(2) != 180 {
			t.Errorf("%s: others are there", row)
		}
		if ended := j.Add(list("z1")); len(ended) != 0 {
			t.Error(ended)
		}
		if job, there := j.Of("z.service"); job.Id != 9 || !there || j.Next() != 10 {
			t.Errorf("%s: %v, %v", row, job, there)
		}
	}
}

func TestRestoreRefuses(t *testing.T) { // P18.3: and changes nothing then
	good := api.Job{Id: 3, Unit: "x.service", Kind: stop, Running: true}
	with := func(change func(*api.Job)) api.Job {
		job := api.Job{Id: 4, Unit: "y.service", Kind: start}
		change(&job)
		return job
	}
	var wrong []api.Job
	wrong = append(wrong, with(func(job *api.Job) { job.Unit = "" }), with(func(job *api.Job) { job.Id = good.Id }), with(func(job *api.Job) { job.Unit = good.Unit }), with(func(job *api.Job) { job.Unit, job.Kind = good.Unit, good.Kind }), good)
	for _, id := range []int{math.MinInt, -1, 0, 9, 10, 1 << 33, math.MaxInt} {
		wrong = append(wrong, with(func(job *api.Job) { job.Id = id }))
	}
	for _, kind := range []int{math.MinInt, -1, 0, 4, 5, 256 + 1, 1<<32 + 1, math.MaxInt} {
		wrong = append(wrong, with(func(job *api.Job) { job.Kind = kind }))
	}
	last := api.Job{Id: 8, Unit: "z.service", Kind: restart}
	for _, bad := range wrong {
		for _, l := range [][]api.Job{{good, bad}, {bad, good}, {good, last, bad}, {last, bad, good}} {
			j := jobsOf(t, 9, "2a1 5c3r 8b2")
			if err := j.Restore(l); err != 180 {
				t.Errorf("%v: %d", l, err)
			}
			check(t, fmt.Sprint(l), j, "2a1 5c3r 8b2", 9)
			if _, there := j.Of(good.Unit); there || j.Run(2) != 0 || j.Turn(5) != 0 || j.Run(3) != 180 {
				t.Errorf("%v: it isn't as it was", l)
			}
			j = New(9)
			j.Restore(l)
			check(t, fmt.Sprint(l), j, "", 9)
		}
	}
	j := jobsOf(t, 9, "2a1")
	if err := j.Restore([]api.Job{good, last, with(func(*api.Job) {})}); err != 0 {
		t.Error(err)
	}
}

func TestRestoreGoesByNext(t *testing.T) { // P18.3: as it rises
	j := New(0)
	if err := j.Restore(held("1a1")); err != 180 {
		t.Error(err)
	}
	j.Add(list("b1"))
	if err := j.Restore(held("2a1")); err != 180 {
		t.Error(err)
	}
	if err := j.Restore(held("1a1r")); err != 0 {
		t.Error(err)
	}
	check(t, "Restore", j, "1a1r", 2)
	j = New(math.MaxInt)
	if err := j.Restore([]api.Job{{Id: math.MaxInt, Unit: "a.service", Kind: start}}); err != 180 {
		t.Error(err)
	}
	if err := j.Restore([]api.Job{{Id: math.MaxInt - 1, Unit: "a.service", Kind: start}}); err != 0 {
		t.Error(err)
	}
}

func TestIdsAtTheEndOfInt(t *testing.T) { // no call panics, and no job is lost
	j := New(math.MaxInt)
	j.Add(list("a1 b1 c2"))
	for _, unit := range []string{"a.service", "b.service", "c.service"} {
		job, there := j.Of(unit)
		if !there || job.Unit != unit || j.Run(job.Id) != 0 {
			t.Error(job, there)
		}
		if ended, err := j.End(graph.New(), job.Id, api.RDone); len(ended) != 1 || err != 0 {
			t.Error(ended, err)
		}
	}
	check(t, "all ended", j, "", math.MinInt+2)
}

func TestWhatIsHandedInStays(t *testing.T) { // neither changed nor kept, nor is the room behind it
	room := list("a1 b2 a2 c3 d0 a1 b1 c1")
	room[4].Unit = ""
	was := slices.Clone(room)
	for n := range len(room) {
		j := jobsOf(t, 9, "2c1 3d2")
		j.Add(room[:n])
		before := sayAll(j.All())
		if !slices.Equal(room, was) {
			t.Fatalf("Add of %d: %v", n, room)
		}
		clear(room)
		if got := sayAll(j.All()); got != before {
			t.Errorf("Add keeps: %s, then %s", before, got)
		}
		copy(room, was)
	}
	room = held("8a1r 3b2 5c3r 3d1 1e1")
	was = slices.Clone(room)
	for n := range len(room) {
		j := jobsOf(t, 9, "2c1 3d2")
		j.Restore(room[:n])
		before := sayAll(j.All())
		if !slices.Equal(room, was) {
			t.Fatalf("Restore of %d: %v", n, room)
		}
		clear(room)
		if got := sayAll(j.All()); got != before {
			t.Errorf("Restore keeps: %s, then %s", before, got)
		}
		copy(room, was)
	}
}

func TestGraphStays(t *testing.T) { // Ready and End look at it only
	g := of(t, "a", "b r:a a:a", "c b:b", "d r:x")
	sayGraph := func() string {
		text := fmt.Sprint(slices.Collect(g.Units()))
		for _, n := range []string{"a.service", "b.service", "c.service", "d.service", "x.service"} {
			text += fmt.Sprint(slices.Collect(g.Edges(n)), slices.Collect(g.Into(n)))
		}
		return text
	}
	was := sayGraph()
	j := jobsOf(t, 9, "1a1 2b1 3c1 4d1")
	sayAll(j.Ready(g))
	j.End(g, 1, api.RFailed)
	if now := sayGraph(); now != was {
		t.Errorf("%s became %s", was, now)
	}
}

func TestAnswersAreNewMemory(t *testing.T) { // their spare room too
	spoil := func(l []api.Ended) {
		l = l[:cap(l)]
		for i := range l {
			l[i] = api.Ended{Unit: "spoilt"}
		}
	}
	g := of(t, "a", "b r:a", "c r:b")
	j := New(1)
	var answers [][]api.Ended
	var want []string
	keep := func(l []api.Ended) {
		for i, a := range answers {
			if got := sayEnded(a); got != want[i] {
				t.Fatalf("%s became %s", want[i], got)
			}
		}
		answers, want = append(answers, l), append(want, sayEnded(l))
	}
	for range 5 {
		keep(j.Add(list("a1 b1 c1")))
		keep(j.Add(list("a2 b2")))
		keep(j.Add(list("a3 b3 c3")))
		a, _ := j.Of("a.service")
		ended, _ := j.End(g, a.Id, api.RFailed)
		if len(ended) != 3 {
			t.Fatal(ended)
		}
		keep(ended)
		spoil(answers[0])
		answers, want = answers[1:], want[1:]
	}
}

func TestZeroJobsAreAsNew(t *testing.T) { // no call panics
	g := of(t, "a", "b r:a")
	for _, act := range []func(*Jobs) string{
		func(j *Jobs) string { return fmt.Sprint(j.Next()) },
		func(j *Jobs) string { return sayAll(j.All()) + sayAll(j.Ready(g)) },
		func(j *Jobs) string { job, there := j.Of("a.service"); return fmt.Sprint(job, there) },
		func(j *Jobs) string { return sayEnded(j.Add(list("b1 a1 a2"))) },
		func(j *Jobs) string { return fmt.Sprint(j.Run(1), j.Turn(1)) },
		func(j *Jobs) string { ended, err := j.End(g, 2, api.RFailed); return fmt.Sprint(ended, err) },
		func(j *Jobs) string { return fmt.Sprint(j.Restore(nil), j.Restore(held("1a1"))) },
	} {
		var zero Jobs
		if got, want := act(&zero), act(New(1)); got != want {
			t.Errorf("%s, wanted %s", got, want)
		}
		zero.Add(list("c1"))
		if _, there := zero.Of("c.service"); !there {
			t.Error("c has no job")
		}
	}
}

func TestJobsAreApart(t *testing.T) { // several objects
	a, b := New(1), New(1)
	a.Add(list("a1 b1"))
	check(t, "b", b, "", 1)
	b.Add(list("a2"))
	b.Run(1)
	check(t, "a", a, "1a1 2b1", 3)
	check(t, "b", b, "1a2r", 2)
	l := held("1c1 2d1")
	a.Restore(l)
	a.Run(1)
	l[1] = held("1e1")[0]
	b.Restore(l[1:])
	check(t, "a", a, "1c1r 2d1", 3)
	check(t, "b", b, "1e1", 2)
}

func TestEachJobEndsOnce(t *testing.T) { // P18.4: all that was there ends, and what is run waits for none that is there
	g := of(t, "a a:b r:b", "b a:c b:c", "c", "d a:c r:c f:a", "e w:a")
	for results := range 6 * 6 * 6 {
		j := New(1)
		ended := map[int]int{}
		note := func(l []api.Ended) {
			for _, e := range l {
				ended[e.Id]++
			}
		}
		note(j.Add(list("a1 b1 c3 d1 e1 c1 e2 e2 c2 c1")))
		for left := results; ; left /= 6 {
			ready := slices.Collect(j.Ready(g))
			if len(ready) == 0 {
				break
			}
			if err := j.Run(ready[0].Id); err != 0 {
				t.Fatal(err)
			}
			l, err := j.End(g, ready[0].Id, 1+left%6)
			if err != 0 {
				t.Fatal(err)
			}
			note(l)
		}
		check(t, "all ended", j, "", 10)
		for id := 1; id < 10; id++ {
			if ended[id] != 1 {
				t.Errorf("results %d: %d ended %d times", results, id, ended[id])
			}
		}
	}
}

func TestSeveralGoroutinesLook(t *testing.T) { // at jobs that aren't changed
	g := of(t, "a", "b a:a", "c a:b")
	j := jobsOf(t, 9, "3a1 1b1 2c2 5d1r")
	before := runtime.NumGoroutine()
	var all sync.WaitGroup
	for range 8 {
		all.Go(func() {
			for range 100 {
				job, there := j.Of("b.service")
				if got := fmt.Sprint(sayAll(j.All()), "/", sayAll(j.Ready(g)), "/", say([]api.Job{job}), there, j.Next()); got != "1b1 2c2 3a1 5d1r/2c2 3a1/1b1true 9" {
					t.Error(got)
				}
			}
		})
	}
	all.Wait()
	for range 100 { // those above may still be going
		if runtime.NumGoroutine() <= before {
			return
		}
		time.Sleep(time.Millisecond)
	}
	t.Errorf("%d goroutines, %d before", runtime.NumGoroutine(), before)
}

func TestManyJobs(t *testing.T) { // P18.1, P18.2, P18.3: a list has no bound here; to look for each among all would take long
	const many = 100000
	var l []api.Job
	for i := range many {
		l = append(l, api.Job{Unit: fmt.Sprintf("u%06d.service", many-i), Kind: start})
	}
	g := of(t, "a")
	j := New(1)
	began := time.Now()
	j.Add(l)
	if ready := slices.Collect(j.Ready(g)); len(ready) != many || ready[0].Id != 1 || ready[many-1].Id != many {
		t.Error(len(ready))
	}
	if err := j.Restore(slices.Collect(j.All())); err != 0 {
		t.Error(err)
	}
	for id := 1; id <= many; id += 2 {
		if run, turn := j.Run(id), j.Turn(id); run != 0 || turn != 180 {
			t.Fatal(run, turn)
		}
		if ended, err := j.End(g, id, api.RFailed); len(ended) != 1 || err != 0 {
			t.Fatal(ended, err)
		}
	}
	for i := range l {
		l[i].Kind = stop
	}
	if ended := j.Add(l); len(ended) != many/2 || ended[0].Id != 2 {
		t.Error(len(ended))
	}
	if spent := time.Since(began); spent > 20*time.Second {
		t.Errorf("it took %v", spent)
	}
}

// heap: how much is held.
func heap() uint64 {
	runtime.GC()
	var m runtime.MemStats
	runtime.ReadMemStats(&m)
	return m.HeapAlloc
}

func TestWhatIsGoneIsNotKept(t *testing.T) { // P18.4: jobs that ended, and those that were restored away
	g := of(t, "a")
	j := New(1)
	long := strings.Repeat("x", 1000)
	before := heap()
	for i := range 200000 {
		j.Add([]api.Job{{Unit: fmt.Sprint(i, long), Kind: start}})
		if i%2 == 0 {
			j.End(g, j.Next()-1, api.RDone)
		} else if i%1000 == 1 {
			j.Restore(nil)
		}
	}
	j.Restore(nil)
	if after := heap(); after > before+10<<20 {
		t.Errorf("%d bytes, %d before", after, before)
	}
	runtime.KeepAlive(j)
}
