package txn

import (
	"fmt"
	"iter"
	"math"
	"runtime"
	"slices"
	"strings"
	"sync"
	"testing"
	"time"

	"reveille/api"
	"reveille/graph"
	"reveille/order"
	"reveille/setting"
)

const (
	start   = api.JStart
	stop    = api.JStop
	restart = api.JRestart
)

// of: a graph of the units of the letters, Plain services; a capital's unit is Broken (its name is the small letter). Of each word `aRb` a has b in its Requires, by the letter between: W, R, B, P, C of Wants to Conflicts, A of After.
func of(t *testing.T, units, words string) *graph.Graph {
	t.Helper()
	g := graph.New()
	for _, u := range unitsOf(units, words) {
		if err := g.Add(u); err != 0 {
			t.Fatal(err)
		}
	}
	return g
}

func unitsOf(units, words string) []api.Unit {
	var all []api.Unit
	for _, letter := range units {
		small := strings.ToLower(string(letter))
		u := api.Unit{Name: small + ".service", Kind: api.Service, Load: api.Loaded, Plain: true}
		if small != string(letter) {
			u.Load = api.Broken
		}
		lists := map[string]*[]string{"W": &u.Wants, "R": &u.Requires, "B": &u.BindsTo, "P": &u.PartOf, "C": &u.Conflicts, "A": &u.After}
		for _, w := range strings.Fields(words) {
			if w[:1] == small {
				l := lists[w[1:2]]
				*l = append(*l, w[2:]+".service")
			}
		}
		all = append(all, u)
	}
	return all
}

// in: `a3 b1`: a is Active, b Inactive.
func in(text string) []api.Status {
	var l []api.Status
	for _, w := range strings.Fields(text) {
		l = append(l, api.Status{Name: w[:1] + ".service", State: int(w[1] - '0')})
	}
	return l
}

// jobs: `a1 b2+`: a start of a, a stop of b that runs.
func jobs(text string) []api.Job {
	var l []api.Job
	for i, w := range strings.Fields(text) {
		l = append(l, api.Job{Id: i + 1, Unit: w[:1] + ".service", Kind: int(w[1] - '0'), Running: strings.HasSuffix(w, "+")})
	}
	return l
}

// say: a job as jobs reads it; its Id, too, if it has one.
func say(job api.Job) string {
	word := fmt.Sprintf("%s%d", strings.TrimSuffix(job.Unit, ".service"), job.Kind)
	if job.Running {
		word += "+"
	}
	if job.Id != 0 {
		word += fmt.Sprintf("(%d)", job.Id)
	}
	return word
}

// sayClosure: `!` behind a job that must be.
func sayClosure(l iter.Seq2[api.Job, bool]) string {
	var words []string
	for job, must := range l {
		word := say(job)
		if must {
			word += "!"
		}
		words = append(words, word)
	}
	return strings.Join(words, " ")
}

func closure(g *graph.Graph, states, job string) string {
	return sayClosure(Closure(g, in(states), job[:1]+".service", int(job[1]-'0')))
}

// build: the jobs, or the error's number; the job's mode behind it: `a1r`, `a1f`, `a1i` of Replace to Isolate.
func build(t *testing.T, g *graph.Graph, states, waits, job string) string {
	t.Helper()
	mode := 1 + strings.Index("rfi", job[2:])
	return told(t, g, in(states), jobs(waits), job[:1]+".service", int(job[1]-'0'), mode)
}

func told(t *testing.T, g *graph.Graph, states []api.Status, waits []api.Job, unit string, kind, mode int) string {
	t.Helper()
	l, err := Build(g, states, waits, unit, kind, mode)
	if err != 0 {
		if len(l) != 0 {
			t.Errorf("%v beside error %d", l, err)
		}
		return fmt.Sprint(int(err))
	}
	var words []string
	for _, job := range l {
		words = append(words, say(job))
	}
	return strings.Join(words, " ")
}

func TestExample(t *testing.T) { // P17.1, P17.2: the chapter's
	g := of(t, "ab", "aRb")
	if got := closure(g, "", "a1"); got != "a1! b1!" {
		t.Error(got)
	}
	if got := build(t, g, "", "", "a1r"); got != "a1 b1" {
		t.Error(got)
	}
}

func TestClosureByOneEdge(t *testing.T) { // P17.1: of each kind, both ways, by the kind of the job and the state of the other unit
	const all, notDown, up = "01234569", "234", "23"
	type more struct{ states, with string } // what is told in these states; in others the job alone
	for _, row := range []struct {
		edge                 string
		start, stop, restart more
	}{
		{"uRv", more{all, "u1! v1!"}, more{}, more{all, "u3! v1!"}},
		{"uBv", more{all, "u1! v1!"}, more{}, more{all, "u3! v1!"}},
		{"uWv", more{all, "u1! v1"}, more{}, more{all, "u3! v1"}},
		{"uPv", more{}, more{}, more{}},
		{"uCv", more{notDown, "u1! v2!"}, more{}, more{notDown, "u3! v2!"}},
		{"uAv", more{}, more{}, more{}},
		{"vRu", more{}, more{notDown, "u2! v2!"}, more{up, "u1 u3! v3"}},
		{"vBu", more{}, more{notDown, "u2! v2!"}, more{up, "u1 u3! v3"}},
		{"vPu", more{}, more{notDown, "u2! v2!"}, more{up, "u3! v3"}},
		{"vWu", more{}, more{}, more{}},
		{"vCu", more{notDown, "u1! v2!"}, more{}, more{notDown, "u3! v2!"}},
		{"vAu", more{}, more{}, more{}},
	} {
		g := of(t, "uv", row.edge)
		for kind, m := range []more{{}, row.start, row.stop, row.restart, {}} {
			job := fmt.Sprintf("u%d", kind)
			for _, state := range all {
				want := job + "!"
				if strings.ContainsRune(m.states, state) {
					want = m.with
				}
				if got := closure(g, "v"+string(state), job); got != want {
					t.Errorf("%s, job %s, state %c: %s, wanted %s", row.edge, job, state, got, want)
				}
			}
		}
	}
}

func TestClosures(t *testing.T) { // P17.1
	for _, row := range []struct{ units, words, states, job, want string }{
		{"", "", "", "a1", "a1!"},
		{"", "", "", "a2", "a2!"},
		{"", "", "", "a3", "a3!"},
		{"a", "", "a3", "a1", "a1!"}, // it may be up, and belongs all the same
		{"a", "", "a1", "a2", "a2!"}, // or down
		{"a", "aWa aRa aCa aPa", "a3", "a3", "a3!"},
		// on and on
		{"abcd", "aRb bBc cRd", "", "a1", "a1! b1! c1! d1!"},
		{"abcd", "aRb bWc cRd", "", "a1", "a1! b1! c1 d1"}, // what belongs to one that needn't be needn't
		{"abcd", "aWb bRc cCd", "d3", "a1", "a1! b1 c1 d2"},
		{"abc", "aRb bRc cRa", "", "a1", "a1! b1! c1!"},
		{"abc", "aRb bRc cRa", "", "b1", "a1! b1! c1!"},
		{"abcd", "bRa cBb dPc", "a3 b3 c3 d3", "a2", "a2! b2! c2! d2!"},
		{"abcd", "bRa cBb dPc", "a3 b3 c1 d3", "a2", "a2! b2!"}, // not past one that is down
		{"abcd", "bRa cBb dPc", "b2 c4 d5", "a2", "a2! b2! c2!"},
		{"abcd", "aCb cRb dPc", "b3 c3 d3", "a1", "a1! b2! c2! d2!"},
		{"abcd", "aWb bCc dRc", "c3 d3", "a1", "a1! b1 c2 d2"},
		{"abc", "aCb bRc", "b3 c3", "a1", "a1! b2!"}, // a stop starts nothing
		// a restart and what goes on from it
		{"abc", "bRa cPb", "a3 b3 c3", "a3", "a1 a3! b3 c3"},
		{"abc", "bRa bRc", "b3", "a3", "a1 a3! b3 c1"},
		{"abcd", "bPa bRc dCb", "b2 d4", "a3", "a3! b3 c1 d2"},
		{"abcd", "bPa bCd cRd", "b3 c3 d3", "a3", "a3! b3 c2 d2"},
		{"ab", "bRa", "b4", "a3", "a3!"},
		// one thing says that it must be, another one that it needn't
		{"abc", "aWb aRb", "", "a1", "a1! b1!"},
		{"abc", "aWb aRc cRb", "", "a1", "a1! b1! c1!"},
		{"abcd", "aWb bRc aRd dRb", "", "a1", "a1! b1! c1! d1!"}, // what hangs on it must, too
		{"abcd", "aWd bRc aRb dRc", "", "a1", "a1! b1! c1! d1"},  // but not the other way round
		{"abcde", "aWb bRc cRd aWe eWd", "", "a1", "a1! b1 c1 d1 e1"},
		{"abcdef", "aWb bRc cRd dRe eRb aRf fRe", "", "a1", "a1! b1! c1! d1! e1! f1!"},
		{"abcdef", "aWf fRe eRd dRc cRf aRb bRd", "", "a1", "a1! b1! c1! d1! e1! f1!"},
		{"abcd", "aWb bCd aRc cCd", "d3", "a1", "a1! b1 c1! d2!"},
		// several jobs of one unit
		{"ab", "aRb aCb", "b3", "a1", "a1! b1! b2!"},
		{"ab", "aWb aCb", "b3", "a1", "a1! b1 b2!"},
		{"abc", "aRb bRa", "a3 b3", "a3", "a1! a3! b1! b3"},
		{"abc", "aRb bPa aCb cRb", "a3 b3 c3", "a3", "a2! a3! b1! b2! b3 c2! c3"},
		{"abc", "aRb bCc cRa", "c3", "a1", "a1! b1! c2!"},
		{"ab", "aRb bCa", "a3 b3", "a1", "a1! a2! b1! b2!"},
		{"ab", "aRb bCa", "a3 b1", "a1", "a1! a2! b1!"},
		// units that aren't loaded, or aren't there
		{"A", "aRb aWc aCd", "d3", "a1", "a1!"},
		{"A", "aRb aWc aCd", "d3", "a3", "a3!"},
		{"Ab", "bCa bPa", "b3", "a1", "a1!"},
		{"Ab", "bCa bPa", "b3", "a3", "a3!"},
		{"Ab", "bCa bPa", "b3", "a2", "a2! b2!"}, // a stop goes on all the same
		{"b", "bCa bPa", "b3", "a1", "a1!"},
		{"b", "bCa bPa", "b3", "a3", "a3!"},
		{"b", "bCa bPa", "b3", "a2", "a2! b2!"},
		{"aB", "aRb bRc", "", "a1", "a1! b1!"},
		{"aB", "aWb bRc", "", "a1", "a1! b1"},
		{"aB", "aCb", "b3", "a1", "a1! b2!"},
		{"aB", "bRa bRc", "b3", "a2", "a2! b2!"},
		{"aB", "bRa bRc", "b3", "a3", "a3! b3"},
		{"aB", "bCa bRc", "b3", "a1", "a1! b2!"},
		{"a", "aRb aWc aCd", "b3 c3 d3", "a1", "a1! b1! c1 d2!"},
		{"a", "aRb aWc aCd", "b3 c3 d5", "a3", "a3! b1! c1"},
		// states
		{"ab", "aCb", "b1 b3", "a1", "a1! b2!"}, // the last one counts
		{"ab", "aCb", "b3 b1", "a1", "a1!"},
		{"ab", "aCb", "b3 b5", "a1", "a1!"},
		{"ab", "aCb", "b3 b0", "a1", "a1!"}, // none is Inactive
		{"ab", "aCb", "b3 b6", "a1", "a1!"},
		{"ab", "aCb", "b6 b0 b4", "a1", "a1! b2!"},
		{"ab", "aCb", "b3 a1", "a1", "a1! b2!"},
		// no such job
		{"abcd", "aRb aWb aCb cRa dCa cPa", "a3 b3 c3 d3", "a0", "a0!"},
		{"abcd", "aRb aWb aCb cRa dCa cPa", "a3 b3 c3 d3", "a4", "a4!"},
		{"abcd", "aRb aWb aCb cRa dCa cPa", "a3 b3 c3 d3", "a9", "a9!"},
	} {
		g := of(t, row.units, row.words)
		if got := closure(g, row.states, row.job); got != row.want {
			t.Errorf("%s, %s, %s, %s: %s, wanted %s", row.units, row.words, row.states, row.job, got, row.want)
		}
	}
}

func TestClosureByKinds(t *testing.T) { // P17.1: by the edges that the graph makes of itself, and of units of all kinds
	g := graph.New()
	for _, u := range []api.Unit{
		{Name: "a.service", Kind: api.Service, Load: api.Loaded},
		{Name: "a.socket", Kind: api.Socket, Load: api.Loaded, Target: "a.service"},
		{Name: "m.target", Kind: api.Target, Load: api.Loaded, Wants: []string{"a.socket", "m.mount"}},
		{Name: "m.mount", Kind: api.Mount, Load: api.Loaded, Plain: true},
		{Name: "shutdown.target", Kind: api.Target, Load: api.Loaded},
	} {
		g.Add(u)
	}
	up := []api.Status{{Name: "a.service", State: 2}, {Name: "a.socket", State: 3}, {Name: "m.target", State: 3}, {Name: "m.mount", State: 3}}
	for _, row := range []struct {
		unit string
		want string
	}{
		{"m.target", "a.socket1 m.mount1 m.target1!"}, // what a socket triggers doesn't belong to it
		{"a.socket", "a.socket1!"},
		{"shutdown.target", "a2! a.socket2! shutdown.target1!"},
	} {
		if got := sayClosure(Closure(g, up, row.unit, start)); got != row.want {
			t.Errorf("%s: %s", row.unit, got)
		}
	}
	up = append(up, api.Status{Name: "shutdown.target", State: 3})
	if got := sayClosure(Closure(g, up, "a.service", start)); got != "a1! shutdown.target2!" {
		t.Error(got)
	}
	g.Remove("shutdown.target") // whether it is there doesn't count
	if got := sayClosure(Closure(g, up, "a.service", restart)); got != "a3! shutdown.target2!" {
		t.Error(got)
	}
}

func TestClosureByUnitThenKind(t *testing.T) { // P17.1: rising byte by byte
	names := []string{"-.mount", "A.service", "_.service", "a.service", "a.socket", "a0.service", "a@.service", "aa.service", "b.mount"}
	u := api.Unit{Name: "m.service", Kind: api.Service, Load: api.Loaded, Plain: true, Wants: slices.Clone(names), Conflicts: names}
	slices.Reverse(u.Wants)
	g := graph.New()
	g.Add(u)
	var states []api.Status
	var want []string
	for _, n := range names {
		states = append(states, api.Status{Name: n, State: api.Active})
		want = append(want, n+" 1 false", n+" 2 true")
	}
	want = append(want, "m.service 1 true")
	var got []string
	for job, must := range Closure(g, states, "m.service", start) {
		got = append(got, fmt.Sprint(job.Unit, " ", job.Kind, " ", must))
		if job.Id != 0 || job.Running {
			t.Errorf("%+v", job)
		}
	}
	if !slices.Equal(got, want) {
		t.Errorf("%q", got)
	}
}

func TestClosureOfAnyText(t *testing.T) { // P17.1: units that can't be, and kinds
	g := of(t, "a", "aRb")
	for _, unit := range []string{"", "a", "no unit", "\xff", "\x00", strings.Repeat("x", 5000)} {
		for _, kind := range []int{start, stop, restart, 0, 4, -1, math.MaxInt, math.MinInt} {
			n := 0
			for job, must := range Closure(g, []api.Status{{}, {Name: unit, State: 3}}, unit, kind) {
				if n++; job != (api.Job{Unit: unit, Kind: kind}) || !must {
					t.Errorf("%+v, %v", job, must)
				}
			}
			if n != 1 {
				t.Errorf("%q, %d: %d", unit, kind, n)
			}
		}
	}
	for _, kind := range []int{-1, math.MaxInt, math.MinInt, 1<<32 + 1, 256 + 2} {
		if l := sayClosure(Closure(of(t, "ab", "aRb bRa aCb"), in("a3 b3"), "a.service", kind)); l != fmt.Sprintf("a%d!", kind) {
			t.Error(l)
		}
	}
	for _, state := range []int{-1, 0, 6, math.MaxInt, math.MinInt, 1<<32 + 3, 256 + 3} {
		if l := sayClosure(Closure(of(t, "ab", "aCb"), []api.Status{{Name: "b.service", State: state}}, "a.service", start)); l != "a1!" {
			t.Errorf("state %d: %s", state, l)
		}
	}
}

func TestStateIsTakenFromState(t *testing.T) { // P17.1, P17.2: whatever else a Status tells
	g := of(t, "ab", "aCb")
	states := []api.Status{{Name: "b.service", Load: 3, State: 1, Sub: 4, Main: 7, Control: 8, Pids: []int{7, 8}, Job: 2, Timer: 9, Watch: 9, Starts: []int64{1}, Result: 2}}
	if l := sayClosure(Closure(g, states, "a.service", start)); l != "a1!" {
		t.Error(l)
	}
	states[0].State, states[0].Sub = 3, 1
	if l := told(t, g, states, nil, "a.service", start, 1); l != "a1 b2" {
		t.Error(l)
	}
}

func TestBuildKinds(t *testing.T) { // P17.2: ErrTxnKind, ahead of all else
	g := of(t, "ab", "aRz aCb")
	for kind := -2; kind < 8; kind++ {
		for mode := -2; mode < 8; mode++ {
			is := kind >= 1 && kind <= 3 && (mode == 1 || mode == 2 || mode == 3 && kind == 1)
			for _, unit := range []string{"b.service", "a.service", "z.service", ""} {
				if got := told(t, g, nil, nil, unit, kind, mode); is != (got != "174") {
					t.Errorf("%s, %d, %d: %s", unit, kind, mode, got)
				}
			}
		}
	}
	for _, row := range [][2]int{{math.MaxInt, 1}, {math.MinInt, 1}, {1, math.MaxInt}, {1, math.MinInt}, {1<<32 + 1, 1}, {256 + 1, 1}, {1, 1<<32 + 1}, {1, 256 + 3}, {256 + 1, 3}} {
		if got := told(t, g, nil, nil, "b.service", row[0], row[1]); got != "174" {
			t.Errorf("%v: %s", row, got)
		}
	}
}

func TestBuilds(t *testing.T) { // P17.2, P17.3
	for _, row := range []struct{ units, words, states, waits, job, want string }{
		// all that belongs to it; what has nothing to do is left out
		{"abc", "", "", "", "b1r", "b1"},
		{"abc", "", "b3", "", "b1r", ""},
		{"abc", "", "b2", "", "b1r", "b1"},
		{"abc", "", "b4", "", "b1r", "b1"},
		{"abc", "", "b5", "", "b1r", "b1"},
		{"abc", "", "", "", "b2r", ""},
		{"abc", "", "b5", "", "b2r", ""},
		{"abc", "", "b2", "", "b2r", "b2"},
		{"abc", "", "b3", "", "b2r", "b2"},
		{"abc", "", "b4", "", "b2r", "b2"},
		{"abc", "", "", "", "b3r", "b1"},
		{"abc", "", "b5", "", "b3r", "b1"},
		{"abc", "", "b2", "", "b3r", "b3"},
		{"abc", "", "b3", "", "b3r", "b3"},
		{"abc", "", "b4", "", "b3r", "b3"},
		{"abc", "", "b9", "", "b3r", "b1"},
		{"abc", "", "b3 b5", "", "b3r", "b1"},
		{"abcd", "dRc cBa aWb", "", "", "d1r", "a1 b1 c1 d1"},
		{"abcd", "dRc cBa aWb", "d3 c3", "", "d1r", "a1 b1"}, // the closure goes through units that are up
		{"abcd", "bRa cBb dPc", "a5 b3 c2 d4", "", "a2r", "b2 c2 d2"},
		{"abcd", "bRa cBb dPc", "a3 b3 c2 d4", "", "a3r", "a3 b3 c3"},
		{"abcd", "bRa cBb dRe", "a1 b3 c2 d4", "", "a3r", "a1 b3 c3"},
		// units that aren't loaded
		{"A", "", "", "", "a1r", "170"},
		{"A", "", "", "", "a3r", "170"},
		{"A", "", "a3", "", "a1r", "170"}, // up or not
		{"A", "", "a3", "", "a3r", "170"},
		{"A", "", "a3", "", "a2r", "a2"}, // one that is up can still be stopped
		{"A", "", "", "", "a2r", ""},
		{"", "", "", "", "a1r", "170"},
		{"", "", "", "", "a3r", "170"},
		{"", "", "a3", "", "a3r", "170"},
		{"", "", "a3", "", "a2r", "a2"},
		{"", "", "", "", "a2r", ""},
		{"aB", "aRb", "", "", "a1r", "170"},
		{"aB", "aRb", "b3", "", "a1r", "170"},
		{"aB", "aRb", "", "", "a3r", "170"},
		{"a", "aBb", "", "", "a1r", "170"},
		{"abC", "aRb bRc", "", "", "a1r", "170"},
		{"abC", "aWb bRc", "", "", "a1r", "a1 b1"}, // b needn't be, nor what it requires
		{"abC", "aWb bRc", "", "", "b1r", "170"},
		{"abC", "aRb bWc", "", "", "a1r", "a1 b1"},
		{"aB", "aWb", "", "", "a1r", "a1"},
		{"a", "aWb", "", "", "a1r", "a1"},
		{"aB", "bRa", "b3", "", "a3r", "a1"}, // not b's restart
		{"aB", "bRa", "a3 b3", "", "a3r", "a3"},
		{"aB", "bRa", "a3 b3", "", "a2r", "a2 b2"},
		{"aB", "aCb", "b3", "", "a1r", "a1 b2"},
		{"aB", "bCa", "b3", "", "a1r", "a1 b2"},
		{"a", "aCb", "b3", "", "a1r", "a1 b2"},
		// a start and a restart
		{"ab", "aRb bPa", "a3 b3", "", "a3r", "a3 b3"},
		{"ab", "aRb bRa", "a3 b3", "", "a3r", "a3 b3"},
		{"ab", "aWb bPa", "a3 b3", "", "a3r", "a3 b3"},
		{"ab", "aRb bPa", "b3", "", "a3r", "a1 b3"},
		{"ab", "aRb bPa", "b2", "", "a3r", "a1 b3"},
		{"ab", "aRb bPa", "b1", "", "a3r", "a1 b1"},
		{"ab", "aRb bPa", "b5", "", "a3r", "a1 b1"},
		{"ab", "aRb bPa", "b4", "", "a3r", "a1 b1"},
		// a start or a restart, and a stop
		{"ab", "aRb aCb", "", "", "a1r", "a1 b1"},
		{"ab", "aRb aCb", "b3", "", "a1r", "171"},
		{"ab", "aRb aCb", "b3", "", "a3r", "171"},
		{"ab", "aWb aCb", "b3", "", "a1r", "a1 b2"},
		{"ab", "aWb aCb", "b4", "", "a1r", "a1 b2"},
		{"ab", "aWb aCb", "b3", "", "a3r", "a1 b2"},
		{"abc", "aRb aWc cCb", "b2", "", "a1r", "a1 b1 c1"}, // what must be stays
		{"abc", "aRb aWc cCb", "b3", "", "a1r", "a1 c1"},
		{"abc", "aRc aWb bCc", "c2", "", "a1r", "a1 b1 c1"},
		{"abc", "aWc aWb bCc", "c2", "", "a1r", "a1 b1 c1"}, // none must: not the stop
		{"abcd", "aWc aWb bCc", "c4", "", "a1r", "a1 b1 c1"},
		{"abc", "aWb bCa", "a2 b3", "", "a1r", "a1 b2"},
		{"abc", "aWb bRc cCa", "a2", "", "a1r", "a1 b1 c1"},
		{"abc", "aRb bRc cCa", "a2", "", "a1r", "171"},
		{"ab", "aRb bCa", "", "", "a1r", "a1 b1"},
		{"ab", "aRb bCa", "a4", "", "a1r", "171"},
		{"ab", "aRb bCa", "b2", "", "a1r", "171"},
		{"abc", "aWb cPb aCc", "b3 c3", "", "a1r", "a1 c2"},
		// all three
		{"abcd", "aRb bPa aWc cCb", "a3 b3", "", "a3r", "a3 b3 c1"},
		{"abcd", "aRb bPa aRc cCb", "a3 b3", "", "a3r", "171"},
		{"abcd", "aWb bPa aWc cCb", "a3 b3", "", "a3r", "a3 b3 c1"},
		{"abcd", "aWb bPa aRc cCb", "a3 b3", "", "a3r", "a3 b2 c1"},
	} {
		g := of(t, row.units, row.words)
		if got := build(t, g, row.states, row.waits, row.job); got != row.want {
			t.Errorf("%s, %s, %s, %s, %s: %s, wanted %s", row.units, row.words, row.states, row.waits, row.job, got, row.want)
		}
	}
}

func TestBuildIsolates(t *testing.T) { // P17.2
	for _, row := range []struct{ units, words, states, waits, job, want string }{
		{"abcdefg", "", "b1 c2 d3 e4 f5 g9", "", "a1i", "a1 c2 d2 e2"},
		{"abcdefg", "", "b1 c2 d3 e4 f5 g9", "", "a1r", "a1"},
		{"abcdefg", "", "b1 c2 d3 e4 f5 g9", "", "d1i", "c2 e2"},
		{"abcdefg", "", "b1 c2 d3 e4 f5 g9", "", "a1f", "a1"},
		{"abcd", "aRb bWc", "a3 b3 c3 d3", "", "a1i", "d2"}, // what belongs to it stays
		{"abcd", "aRb bWc", "a3 b3 c3 d3", "", "b1i", "a2 d2"},
		{"abCd", "aRb bWc cRd", "a3 b3 c3 d3", "", "a1i", "c2 d2"}, // what was left out stops
		{"aB", "", "b3", "", "a1i", "a1 b2"},                       // that it isn't loaded doesn't count
		{"a", "", "b3", "", "a1i", "a1"},                           // but it has to be there
		{"aB", "aRb", "b3", "", "a1i", "170"},
		{"A", "", "a3", "", "a1i", "170"},
		{"abc", "aCb cPb", "b3 c3", "", "a1i", "a1 b2 c2"},
		{"abc", "aCb aRc cCb", "b3", "", "a1i", "a1 b2 c1"},
		{"abc", "aWb aCb", "b3 c3", "", "a1i", "a1 b2 c2"},
		{"abcd", "aWb bCc aWc", "c3", "", "a1i", "a1 b1"},      // c has a start left, which isn't needed
		{"abcd", "aWb bCc", "c3 d3", "", "a1i", "a1 b1 c2 d2"}, // one that needn't stop stops once
		{"abc", "bRa cRb", "a3 b3 c3", "", "a1i", "b2 c2"},     // stops of its own alone: nothing belongs to them
		{"abC", "bRa cRb cRz", "a3 c3 z3", "", "a1i", "c2"},
		{"abc", "bAc cAb", "b3 c3", "", "a1i", "a1 b2"}, // it needn't be: a circle is broken, the greatest is left out
		{"abc", "bAc cAb", "b3 c3", "b1", "a1i", "a1 b2"},
		{"abc", "", "b3", "b1+ c2", "a1i", "a1 b2"}, // what waits doesn't count
	} {
		g := of(t, row.units, row.words)
		if got := build(t, g, row.states, row.waits, row.job); got != row.want {
			t.Errorf("%s, %s, %s, %s, %s: %s, wanted %s", row.units, row.words, row.states, row.waits, row.job, got, row.want)
		}
	}
}

func TestBuildBreaksCircles(t *testing.T) { // P17.2, P17.3
	for _, row := range []struct{ units, words, states, waits, job, want string }{
		{"ab", "aRb aAb", "", "", "a1r", "a1 b1"},
		{"ab", "aRb aAb bAa", "", "", "a1r", "172"},
		{"ab", "aRb aAb bAa", "b3", "", "a1r", "a1"}, // what has nothing to do goes first
		{"ab", "aRb aAb bAa", "b2", "", "a1r", "172"},
		{"ab", "aWb aAb bAa", "", "", "a1r", "a1"},
		{"ab", "aWb bAa", "", "", "a1r", "a1 b1"},
		{"ab", "bWa aAb bAa", "", "", "b1r", "b1"}, // the greatest that needn't be, not the greatest
		{"abc", "aWb aWc bAc cAb", "", "", "a1r", "a1 b1"},
		{"abc", "cWa cWb aAb bAa", "", "", "c1r", "a1 c1"},
		{"abcd", "aWb aWc aWd bAc cAb", "", "", "a1r", "a1 b1 d1"}, // just those that are stuck
		{"abcd", "aWb aWc aWd bAc cAb dAc", "", "", "a1r", "a1 b1 d1"},
		{"abcd", "aWb aWc aWd bAc cAb bAd", "", "", "a1r", "a1 b1 d1"},
		{"abcd", "aWb aWc aWd bAc cAb cAd dAc", "", "", "a1r", "a1 b1"}, // again and again
		{"abcde", "aWb aWc aWd aWe bAc cAb dAe eAd", "", "", "a1r", "a1 b1 d1"},
		{"abcde", "aWb aWc aWd aWe bAc cAd dAe eAb", "", "", "a1r", "a1 b1 c1 d1"},
		{"abcde", "aWb aWc aWd aWe bAc cAd dAb", "", "", "a1r", "a1 b1 c1 e1"},
		{"abcde", "aRb aWc aRd aWe bAc cAd dAb eAb", "", "", "a1r", "a1 b1 d1 e1"},
		{"abcde", "aRb aRc aWd bAc cAb dAb bAd", "", "", "a1r", "172"}, // d's leaving doesn't help
		{"abcd", "aWb bWc cWd bAc cAb", "", "", "a1r", "a1 b1 d1"},     // what belongs to one that is left out stays
		{"abcd", "aWb bRc bAc cAb", "", "", "a1r", "a1 b1"},            // even what it requires is left out
		{"abcd", "aWc cRb bAc cAb", "", "", "a1r", "a1 b1"},
		{"abc", "bRa cRa bAc cAb", "a3 b3 c3", "", "a2r", "172"}, // stops
		{"abc", "bRa cRa bAc cAb", "a3 b3", "", "a2r", "a2 b2"},
		{"abc", "bRa cRa bAc cAb", "a3 b3 c3", "", "a3r", "a3 b3"}, // restarts
		{"abc", "aCb aAb bAa", "b3", "", "a1r", "a1 b2"},           // a start and a stop: one way alone
		{"abcd", "aWb bCc bCd cAd dAc", "c3 d3", "", "a1r", "a1 b1 c2"},
		{"abcd", "aRb bCc bCd cAd dAc", "c3 d3", "", "a1r", "172"},
		{"ab", "aCy aCz bAy yAb", "y3", "", "a1r", "a1 y2"}, // y's edges aren't there
		// with what waits
		{"ab", "aAb bAa", "", "b1", "a1r", "172"},
		{"ab", "aAb bAa", "", "b1+", "a1r", "a1"}, // it doesn't wait any more
		{"ab", "aAb bAa", "", "b3", "a1r", "172"},
		{"ab", "aAb bAa", "", "b2", "a1r", "a1"},
		{"ab", "aAb bAa", "", "b2 b1", "a1r", "a1"}, // the first one of a unit
		{"ab", "aAb bAa", "", "b1 b2", "a1r", "172"},
		{"ab", "aAb bAa", "", "b2+ b1", "a1r", "172"}, // the first one that isn't Running
		{"ab", "aAb bAa", "", "b1+ b2 b1", "a1r", "a1"},
		{"ab", "aAb bAa", "b3", "b1", "a1r", "172"},   // whatever b's state
		{"ab", "aAb bAa aWb", "", "b1", "a1r", "172"}, // b's start is left out, and another one waits
		{"ab", "aAb bAa aWb", "", "b2", "a1r", "a1"},
		{"ab", "aAb bAa aWb", "", "b1+", "a1r", "a1"},
		{"ab", "aAb bAa aRb", "", "b2", "a1r", "172"}, // what waits for a unit that has a job here doesn't count
		{"ab", "aAb bAa", "a2", "a1", "a1r", "a1"},
		{"abc", "aWb bAc cAb", "", "c1", "a1r", "a1"},
		{"abc", "aWb bAc cAb", "", "c1 b1", "a1r", "172"},
		{"abc", "aWb bAc cAb", "", "b1 c2", "a1r", "a1 b1"},
		{"abc", "aWb aWc bAy yAb cAz zAc", "", "y1 z1", "a1r", "a1 b1 c1"},
		{"abcyz", "aWb aWc bAy yAb cAz zAc", "", "y1 z1", "a1r", "a1"},
		{"abcyz", "aWb aWc bAy yAb cAz zAc", "", "z1 y2", "a1r", "a1 b1"},
		{"abc", "bAc cAb", "", "b1 c1", "a1r", "172"}, // others that wait go round already
		{"abc", "bAc cAb", "a3", "b1 c1", "a1r", "172"},
		{"abc", "bAc cAb", "a3", "b1 c1", "a2r", "172"},
		{"abc", "bAc cAb", "", "b1 c1+", "a1r", "a1"},
		{"abc", "bAc cAb aWb", "", "b1 c1", "a1r", "172"},
		{"abc", "bAc cAb aWc", "b3 c3", "b1 c1", "a1r", "172"},
		{"abcd", "aAb bAc cAd dAa", "", "b1 c1 d1", "a1r", "172"},
		{"abcd", "aAb bAc cAd dAa", "", "b1 c2 d1", "a1r", "a1"},
		{"abcd", "aAb bAc cAd dAa bWc", "", "a1 d3", "b1r", "b1"},
		{"abcdefg", "aWb bAc cAd dAb aWe eAf fAe aWg", "", "c1 f1 d1", "a1r", "a1 g1"},
	} {
		g := of(t, row.units, row.words)
		if got := build(t, g, row.states, row.waits, row.job); got != row.want {
			t.Errorf("%s, %s, %s, %s, %s: %s, wanted %s", row.units, row.words, row.states, row.waits, row.job, got, row.want)
		}
	}
}

func TestBuildFails(t *testing.T) { // P17.2: with Fail, if another job waits
	for _, row := range []struct{ units, words, states, waits, job, want string }{
		{"ab", "", "", "", "a1f", "a1"},
		{"ab", "", "", "a1", "a1f", "a1"},
		{"ab", "", "", "a2", "a1f", "173"},
		{"ab", "", "", "a3", "a1f", "173"},
		{"ab", "", "", "a0", "a1f", "173"},
		{"ab", "", "a3", "a1", "a2f", "173"},
		{"ab", "", "a3", "a2", "a2f", "a2"},
		{"ab", "", "a3", "a3", "a3f", "a3"},
		{"ab", "", "a3", "a1", "a3f", "173"},
		{"ab", "", "", "a1", "a3f", "a1"}, // what it became counts
		{"ab", "", "", "a3", "a3f", "173"},
		{"ab", "", "", "a2+", "a1f", "173"},   // running, too
		{"ab", "", "", "a1 a2", "a1f", "173"}, // each of several
		{"ab", "", "", "b2 a1+ a1 a3+", "a1f", "173"},
		{"ab", "", "", "b2", "a1f", "a1"},
		{"ab", "", "", "a2", "a1r", "a1"},
		{"ab", "", "", "a2", "a1i", "a1"},
		{"ab", "aRb", "", "b2", "a1f", "173"},
		{"ab", "aWb", "", "b2", "a1f", "173"},
		{"ab", "aRb", "b3", "b2", "a1f", "a1"}, // b has no job here
		{"ab", "aRb", "", "b1", "a1f", "a1 b1"},
		{"aB", "aWb", "", "b2", "a1f", "a1"},
		{"ab", "", "a3", "a2", "a1f", ""},
		{"ab", "", "", "a1", "a2f", ""},
		{"abc", "aWb aWc bAc cAb", "", "c2", "a1f", "a1 b1"}, // c was left out
		{"abc", "aWb aWc bAc cAb", "", "b2", "a1f", "173"},
		// ahead of it
		{"aB", "aRb", "", "a2", "a1f", "170"},
		{"ab", "aRb aCb", "b3", "a2", "a1f", "171"},
		{"ab", "aRb aAb bAa", "", "a2", "a1f", "172"},
		{"abC", "aRb aCb aRc", "b3", "a2", "a1f", "170"},
		{"abcd", "aRb aCb aRd aAd dAa", "b3", "a2", "a1f", "171"},
	} {
		g := of(t, row.units, row.words)
		if got := build(t, g, row.states, row.waits, row.job); got != row.want {
			t.Errorf("%s, %s, %s, %s, %s: %s, wanted %s", row.units, row.words, row.states, row.waits, row.job, got, row.want)
		}
	}
}

func TestJobsToldAreBare(t *testing.T) { // P17.2: a Unit and a Kind, whatever waits
	g := of(t, "ab", "aRb")
	waits := []api.Job{{Id: 7, Unit: "a.service", Kind: start}, {Id: 8, Unit: "b.service", Kind: start, Running: true}}
	for _, mode := range []int{api.Replace, api.Fail, api.Isolate} {
		l, err := Build(g, nil, waits, "a.service", start, mode)
		if err != 0 || !slices.Equal(l, []api.Job{{Unit: "a.service", Kind: start}, {Unit: "b.service", Kind: start}}) {
			t.Errorf("%d: %+v, %d", mode, l, err)
		}
	}
}

func TestWaitsOfAnyKind(t *testing.T) { // P17.2: jobs that wait may be any
	g := of(t, "ab", "aAb bAa aAx")
	for _, row := range []struct {
		kind int
		want string
	}{{-1, "172"}, {0, "172"}, {4, "172"}, {math.MaxInt, "172"}, {256 + 2, "172"}, {2, "a1"}} {
		waits := []api.Job{{}, {Unit: "no", Kind: 1}, {Id: -3, Unit: "b.service", Kind: row.kind}, {Unit: "\xff", Kind: 2}}
		if got := told(t, g, nil, waits, "a.service", start, api.Replace); got != row.want {
			t.Errorf("%d: %s", row.kind, got)
		}
	}
	if got := told(t, g, nil, []api.Job{{Unit: "", Kind: 1}}, "", stop, api.Fail); got != "" {
		t.Error(got)
	}
	if got := told(t, g, []api.Status{{Name: "", State: 3}}, []api.Job{{Unit: "", Kind: 1}}, "", stop, api.Fail); got != "173" {
		t.Error(got)
	}
	if got := told(t, g, nil, nil, "", start, api.Replace); got != "170" {
		t.Error(got)
	}
}

func TestBuildByUnit(t *testing.T) { // P17.2: rising byte by byte; the greatest is the last one so
	names := []string{"-.mount", "A.service", "_.service", "a.service", "a.socket", "a0.service", "a@.service", "aa.service", "b.mount"}
	u := api.Unit{Name: "m.service", Kind: api.Service, Load: api.Loaded, Plain: true}
	g := graph.New()
	var want []string
	for i, n := range names {
		u.Wants = append([]string{n}, u.Wants...)
		v := api.Unit{Name: n, Kind: api.Service, Load: api.Loaded, Plain: true, After: []string{"m.service"}, Before: []string{"m.service"}}
		if i < 5 { // these go round in circles with the greatest
			v.After, v.Before = []string{"b.mount"}, []string{"b.mount"}
		}
		if i == 8 {
			v.After, v.Before = nil, nil
		}
		if i == 6 || i == 7 {
			v.After = nil
		}
		if i != 5 && i != 8 {
			want = append(want, n+" 1")
		}
		g.Add(v)
	}
	want = append(want, "m.service 1")
	g.Add(u)
	l, err := Build(g, nil, nil, "m.service", start, api.Replace)
	var got []string
	for _, job := range l {
		got = append(got, fmt.Sprint(job.Unit, " ", job.Kind))
	}
	if err != 0 || !slices.Equal(got, want) {
		t.Errorf("%q, %d, wanted %q", got, err, want)
	}
}

func TestUnitsFromFiles(t *testing.T) { // P17.1, P17.2, P17.3: as layer 7 tells them
	g := graph.New()
	for unit, text := range map[string]string{
		"web.service":     "[Unit]\nRequires=db.service\nAfter=db.service\n[Service]\nExecStart=run\n",
		"db.service":      "[Service]\nExecStart=run\n",
		"old.service":     "[Unit]\nConflicts=db.service\n[Service]\nExecStart=run\n",
		"web.socket":      "[Unit]\nPartOf=web.service\n[Socket]\nListenStream=80\n",
		"multi.target":    "[Unit]\nWants=web.service bad.service none.service\n",
		"bad.service":     "[Service]\n",
		"shutdown.target": "",
	} {
		u, _ := setting.Load(unit, []string{text})
		if err := g.Add(u); err != 0 {
			t.Fatalf("%s: %d", unit, err)
		}
	}
	up := func(names ...string) []api.Status {
		var l []api.Status
		for _, n := range names {
			l = append(l, api.Status{Name: n, State: api.Active})
		}
		return l
	}
	for _, row := range []struct {
		states     []api.Status
		unit       string
		kind, mode int
		want       string
	}{
		{nil, "multi.target", start, api.Replace, "db1 multi.target1 web1"},
		{up("old.service"), "multi.target", start, api.Replace, "db1 multi.target1 old2 web1"},
		{up("db.service", "web.service", "web.socket"), "db.service", stop, api.Replace, "db2 web2 web.socket2"},
		{up("db.service", "web.service", "web.socket"), "db.service", restart, api.Replace, "db3 web3 web.socket3"},
		{up("db.service", "web.service", "web.socket", "multi.target"), "shutdown.target", start, api.Isolate, "db2 multi.target2 shutdown.target1 web2 web.socket2"},
		{up("shutdown.target"), "db.service", start, api.Replace, "db1 shutdown.target2"},
		{nil, "bad.service", start, api.Replace, "170"},
		{nil, "none.service", start, api.Replace, "170"},
	} {
		if got := told(t, g, row.states, nil, row.unit, row.kind, row.mode); got != row.want {
			t.Errorf("%s, %d: %s, wanted %s", row.unit, row.kind, got, row.want)
		}
	}
}

func TestGraphsWithoutUnits(t *testing.T) { // P17.1, P17.2
	for _, g := range []*graph.Graph{graph.New(), {}} {
		for _, states := range [][]api.Status{nil, {}} {
			for _, waits := range [][]api.Job{nil, {}} {
				if got := sayClosure(Closure(g, states, "a.service", start)); got != "a1!" {
					t.Error(got)
				}
				for kind, want := range []string{"174", "170", "", "170", "174"} {
					if got := told(t, g, states, waits, "a.service", kind, api.Replace); got != want {
						t.Errorf("%d: %s", kind, got)
					}
				}
			}
		}
	}
}

func TestClosureGoesThroughTheGraphOfNow(t *testing.T) { // P17.1
	g := of(t, "ab", "aRb")
	all := Closure(g, in("c3"), "a.service", start)
	check := func(want string) {
		t.Helper()
		for range 2 {
			if got := sayClosure(all); got != want {
				t.Errorf("%s, wanted %s", got, want)
			}
		}
	}
	check("a1! b1!")
	g.Add(unitsOf("b", "bCc bWd")[0])
	check("a1! b1! c2! d1")
	g.Add(unitsOf("a", "aWb")[0])
	check("a1! b1 c2 d1")
	g.Remove("b.service")
	check("a1! b1")
	g.Add(unitsOf("A", "aWb")[0])
	check("a1!")
}

func TestClosureIsLeftAndGoneThroughAgain(t *testing.T) { // P17.1
	g := of(t, "abcdef", "aRb bWc aCd cRf eWa")
	all := Closure(g, in("d3"), "a.service", start)
	collect := func(most int) []string {
		var got []string
		for job, must := range all {
			if len(got) == most {
				break
			}
			got = append(got, fmt.Sprint(job, must))
		}
		return got
	}
	whole := collect(99)
	if len(whole) != 5 {
		t.Fatal(whole)
	}
	for most := range len(whole) + 1 {
		if got := collect(most); !slices.Equal(got, whole[:most]) {
			t.Errorf("%d: %v", most, got)
		}
	}
	for range all {
		if again := collect(99); !slices.Equal(again, whole) {
			t.Errorf("meanwhile %v", again)
		}
	}
	count := 0
	all(func(api.Job, bool) bool { count++; return false })
	if count != 1 {
		t.Errorf("%d told to one who had left", count)
	}
}

func TestInnerIteratorsAreLeft(t *testing.T) { // at any point
	s := scene{g: of(t, "abcd", "aRb aWc dCa bPa cCa"), states: statesOf(in("b3 d3 c2"))}
	for _, job := range jobs("a1 a2 a3") {
		whole := 0
		for range s.brought(job) {
			whole++
		}
		for most := 1; most <= whole; most++ {
			n := 0
			s.brought(job)(func(api.Job, bool) bool { n++; return n < most })
			if n != most {
				t.Errorf("%v: %d told to one who left at %d", job, n, most)
			}
		}
	}
	all := set[int]{}
	for i := range 5 {
		all.put(i, i > 2)
	}
	n := 0
	all.sorted(func(a, b int) int { return b - a })(func(i int, must bool) bool { n++; return i > 2 && must })
	if n != 3 {
		t.Errorf("%d told to one who left at 3", n)
	}
}

func TestSet(t *testing.T) { // what must be in it stays so
	all := set[string]{}
	for i, row := range []struct {
		thing      string
		must, news bool
	}{{"a", false, true}, {"a", false, false}, {"a", true, true}, {"a", true, false}, {"a", false, false}, {"b", true, true}, {"b", false, false}, {"b", true, false}, {"c", false, true}} {
		if got := all.put(row.thing, row.must); got != row.news {
			t.Errorf("row %d: %v", i, got)
		}
	}
	text := ""
	for thing, must := range all.sorted(strings.Compare) {
		text += fmt.Sprint(thing, must, " ")
	}
	if text != "atrue btrue cfalse " || len(all) != 3 {
		t.Error(text)
	}
}

func TestAmong(t *testing.T) { // P17.2: what waits for a unit that has a job here isn't asked about: of two jobs of one unit order promises nothing
	var p plan
	for _, job := range jobs("b1 d2") {
		p = append(p, choice{Job: job})
	}
	for _, row := range []struct{ waits, want string }{
		{"", "b1(1) d2(2)"},
		{"d1 a2 b1 c3", "b1(1) d2(2) a2(2) c3(4)"},
		{"b1+ a2+ a1 c3 a3", "b1(1) d2(2) a1(3) c3(4)"},
	} {
		var words []string
		for _, job := range p.among(firsts(jobs(row.waits))) {
			words = append(words, say(job))
		}
		if got := strings.Join(words, " "); got != row.want {
			t.Errorf("%s: %s", row.waits, got)
		}
	}
}

func TestWhatIsHandedInStays(t *testing.T) { // neither changed nor kept, the spare room neither
	g := of(t, "abcd", "aRb aWc aCd bAc cAb")
	states := in("d3 b1 c9 x3 y3 z3")
	states[0].Pids, states[0].Starts = []int{1, 2}, []int64{3}
	waits := jobs("d1 c1+ b1 a1 a2 c2 x1")
	wasStates, wasWaits := fmt.Sprint(states), slices.Clone(waits)
	for n := range len(states) {
		for m := range len(waits) {
			for _, mode := range []int{api.Replace, api.Fail, api.Isolate} {
				told(t, g, states[:n], waits[:m], "a.service", start, mode)
			}
			sayClosure(Closure(g, states[:n], "a.service", start))
			if fmt.Sprint(states) != wasStates || !slices.Equal(waits, wasWaits) {
				t.Fatalf("%v, %v", states, waits)
			}
		}
	}
	all := Closure(g, states, "a.service", start)
	before := sayClosure(all)
	clear(states)
	if got := sayClosure(all); got != before || before != "a1! b1! c1 d2!" {
		t.Errorf("%s became %s", before, got)
	}
}

func TestAnswersAreNewMemory(t *testing.T) { // spare room too
	g := of(t, "abcde", "aRb bRc aWd dAe aCe")
	states, waits := in("e3"), jobs("e1 b1 a1")
	for range 3 {
		one, err := Build(g, states, waits, "a.service", start, api.Replace)
		two, _ := Build(g, states, waits, "a.service", start, api.Replace)
		one = one[:cap(one)]
		for i := range one {
			one[i] = api.Job{Unit: "spoilt"}
		}
		if err != 0 || len(two) != 5 || slices.Contains(two[:cap(two)], api.Job{Unit: "spoilt"}) || !slices.Equal(waits, jobs("e1 b1 a1")) {
			t.Fatal(two, err)
		}
	}
}

func TestGraphStays(t *testing.T) { // the calls look only
	g := of(t, "abCd", "aRb aWc aCd bAc cAb bPa")
	sayGraph := func() string {
		text := fmt.Sprint(slices.Collect(g.Units()))
		for _, n := range []string{"a.service", "b.service", "c.service", "d.service", "x.service"} {
			text += fmt.Sprint(slices.Collect(g.Edges(n)), slices.Collect(g.Into(n)))
		}
		return text
	}
	was := sayGraph()
	for _, job := range []string{"a1r", "a1f", "a1i", "a2r", "a3r", "b2f", "c1r", "d3r", "x1r", "x2r", "a0r"} {
		build(t, g, "a3 b2 c3 d3", "a1 b2", job)
		closure(g, "a3 b2 c3 d3", job)
		if now := sayGraph(); now != was {
			t.Errorf("%s: %s became %s", job, was, now)
		}
	}
}

func TestSeveralGoroutinesLook(t *testing.T) { // at one graph that isn't changed
	g := of(t, "abcde", "aRb aWc aCd bAc cAb ePa")
	states, waits := in("d3 e3"), jobs("b1 e2")
	before := runtime.NumGoroutine()
	var all sync.WaitGroup
	closed := Closure(g, states, "a.service", restart)
	for range 8 {
		all.Go(func() {
			for range 100 {
				if got := told(t, g, states, waits, "a.service", start, api.Isolate) + "/" + sayClosure(closed); got != "a1 b1 d2 e2/a3! b1! c1 d2! e3" {
					t.Error(got)
				}
			}
		})
	}
	all.Wait()
	for range 100 { // those above may still be going
		if runtime.NumGoroutine() <= before {
			return
		}
		time.Sleep(time.Millisecond)
	}
	t.Errorf("%d goroutines, %d before", runtime.NumGoroutine(), before)
}

func TestManyNames(t *testing.T) { // P17.1, P17.2: lists have no bound here; to hold each with each would take long
	const many = 30000
	var wanted, hostile []string
	var states []api.Status
	var waits []api.Job
	for i := range many {
		wanted = append(wanted, fmt.Sprintf("w%05d.service", i))
		hostile = append(hostile, fmt.Sprintf("c%05d.service", i))
		states = append(states, api.Status{Name: hostile[i], State: 2}, api.Status{Name: wanted[i], State: 3})
		waits = append(waits, api.Job{Id: 2*i + 1, Unit: hostile[i], Kind: stop}, api.Job{Id: 2*i + 2, Unit: wanted[i], Kind: start})
	}
	g := graph.New()
	g.Add(api.Unit{Name: "a.service", Kind: api.Service, Load: api.Loaded, Plain: true, Wants: wanted, Conflicts: hostile, After: slices.Concat(wanted, hostile)})
	n := 0
	for range Closure(g, states, "a.service", start) {
		n++
	}
	l, err := Build(g, states, waits, "a.service", start, api.Fail)
	if n != 2*many+1 || err != 0 || len(l) != many+1 || l[0].Unit != "a.service" || l[1] != (api.Job{Unit: hostile[0], Kind: stop}) || l[many].Unit != hostile[many-1] {
		t.Error(n, len(l), err)
	}
	waits[0].Kind = start
	if _, err := Build(g, states, waits, "a.service", start, api.Fail); err != 173 {
		t.Error(err)
	}
}

func TestFullGraph(t *testing.T) { // P17.2, P17.3: MaxUnits units, each of which requires all others
	g := graph.New()
	var names []string
	for i := range api.MaxUnits {
		names = append(names, fmt.Sprintf("u%d.service", i+10))
	}
	for i, n := range names {
		g.Add(api.Unit{Name: n, Kind: api.Service, Load: api.Loaded, Plain: true, Requires: names, PartOf: names, After: names[:i]})
	}
	var states []api.Status
	for kind := start; kind <= restart; kind++ {
		for _, n := range names {
			l, err := Build(g, states, nil, n, kind, api.Replace)
			if err != 0 || len(l) != len(names) {
				t.Fatalf("%s, %d: %v, %d", n, kind, l, err)
			}
			sorted, err := order.Sort(g, l)
			if kind == stop {
				slices.Reverse(sorted)
			}
			if !slices.Equal(sorted, l) || err != 0 || l[7] != (api.Job{Unit: names[7], Kind: kind}) {
				t.Fatalf("%s, %d: %v, %d", n, kind, sorted, err)
			}
		}
		for _, n := range names {
			states = append(states, api.Status{Name: n, State: api.Active})
		}
	}
}
