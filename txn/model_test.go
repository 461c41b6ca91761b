package txn

import (
	"fmt"
	"math/rand"
	"slices"
	"strings"
	"testing"

	"reveille/api"
	"reveille/graph"
	"reveille/order"
)

// words: what the chapter's words are held against: the names that are asked about, each edge among them, what is Loaded, states and waits.
type words struct {
	g      *graph.Graph
	names  []string
	states []api.Status
	waits  []api.Job
}

func (w words) has(from, to string, kinds ...int) bool {
	return slices.ContainsFunc(kinds, func(kind int) bool { return w.g.Has(kind, from, to) })
}

// state: "that of the last one of states with its Name (Inactive, if there is none, or it is none)".
func (w words) state(unit string) int {
	for _, s := range slices.Backward(w.states) {
		if s.Name == unit {
			if s.State < 1 || s.State > 5 {
				return 1
			}
			return s.State
		}
	}
	return 1
}

func (w words) down(unit string) bool { return w.state(unit) == 1 || w.state(unit) == 5 }

func (w words) loaded(unit string) bool {
	u, there := w.g.Unit(unit)
	return there && u.Load == 1
}

// saidClosure: P17.1, word by word: what belongs to a job, each with whether it must be; rules are gone through as long as they say something new.
func (w words) saidClosure(unit string, kind int) map[api.Job]bool {
	all := map[api.Job]bool{{Unit: unit, Kind: kind}: true}
	for news := true; news; {
		news = false
		say := func(v string, kind int, must bool) {
			job := api.Job{Unit: v, Kind: kind}
			was, in := all[job]
			if !in || must && !was {
				all[job] = must
				news = true
			}
		}
		var jobs []api.Job
		for job := range all {
			jobs = append(jobs, job)
		}
		for _, job := range jobs {
			u, must := job.Unit, all[job]
			for _, v := range w.names {
				if (job.Kind == 1 || job.Kind == 3) && w.loaded(u) {
					if w.has(u, v, 2, 3) {
						say(v, 1, must)
					}
					if w.has(u, v, 1) {
						say(v, 1, false)
					}
					if !w.down(v) && (w.has(u, v, 5) || w.has(v, u, 5)) {
						say(v, 2, must)
					}
				}
				if job.Kind == 3 && w.loaded(u) && (w.state(v) == 3 || w.state(v) == 2) && w.has(v, u, 2, 3, 4) {
					say(v, 3, false)
				}
				if job.Kind == 2 && !w.down(v) && w.has(v, u, 2, 3, 4) {
					say(v, 2, must)
				}
			}
		}
	}
	return all
}

// saidBuild: P17.2, step by step.
func (w words) saidBuild(unit string, kind, mode int) ([]api.Job, int) {
	if kind != 1 && kind != 2 && kind != 3 || mode != 1 && mode != 2 && mode != 3 || mode == 3 && kind != 1 {
		return nil, 174
	}
	all, err := w.step1(unit, kind, mode)
	if err != 0 {
		return nil, err
	}
	one := map[string]int{}
	must := map[string]bool{}
	for _, u := range w.names {
		s, sMust := hasJob(all, u, 1)
		r, rMust := hasJob(all, u, 3)
		x, xMust := hasJob(all, u, 2)
		other := 1
		if r {
			other = 3
		}
		switch oMust := sMust || rMust; {
		case x && (s || r) && xMust && oMust:
			return nil, 171
		case x && (!s && !r || xMust):
			one[u], must[u] = 2, xMust
		case s || r:
			one[u], must[u] = other, oMust
		}
	}
	for u, kind := range one {
		switch {
		case kind == 1 && w.state(u) == 3 || kind == 2 && w.down(u):
			delete(one, u)
		case kind == 3 && w.down(u):
			one[u] = 1
		}
	}
	return w.steps4and5(one, must, mode)
}

func hasJob(all map[api.Job]bool, unit string, kind int) (bool, bool) {
	must, in := all[api.Job{Unit: unit, Kind: kind}]
	return in, must
}

func (w words) step1(unit string, kind, mode int) (map[api.Job]bool, int) {
	all := w.saidClosure(unit, kind)
	for job, must := range all {
		if job.Kind != 2 && !w.loaded(job.Unit) {
			if must {
				return nil, 170
			}
			delete(all, job)
		}
	}
	if mode == 3 {
		for u := range w.g.Units() {
			s, _ := hasJob(all, u.Name, 1)
			r, _ := hasJob(all, u.Name, 3)
			x, _ := hasJob(all, u.Name, 2)
			if !w.down(u.Name) && !s && !r && !x {
				all[api.Job{Unit: u.Name, Kind: 2}] = false
			}
		}
	}
	return all, 0
}

func (w words) steps4and5(one map[string]int, must map[string]bool, mode int) ([]api.Job, int) {
	for {
		left := order.Stuck(w.g, append(listOf(one), w.others(one)...))
		if len(left) == 0 {
			break
		}
		greatest := ""
		some := false
		for _, job := range left {
			if _, here := one[job.Unit]; here && !must[job.Unit] && (!some || job.Unit > greatest) {
				greatest, some = job.Unit, true
			}
		}
		if !some {
			return nil, 172
		}
		delete(one, greatest)
	}
	for _, job := range w.waits {
		if kind, here := one[job.Unit]; here && mode == 2 && kind != job.Kind {
			return nil, 173
		}
	}
	return listOf(one), 0
}

// others: "those of waits that aren't Running and whose units have none here (of one unit the first one)".
func (w words) others(one map[string]int) []api.Job {
	var l []api.Job
	for _, job := range w.waits {
		_, here := one[job.Unit]
		if !job.Running && !here && !slices.ContainsFunc(l, func(other api.Job) bool { return other.Unit == job.Unit }) {
			l = append(l, job)
		}
	}
	return l
}

func listOf(one map[string]int) []api.Job {
	var l []api.Job
	for u, kind := range one {
		l = append(l, api.Job{Unit: u, Kind: kind})
	}
	slices.SortFunc(l, func(a, b api.Job) int { return strings.Compare(a.Unit, b.Unit) })
	return l
}

// check: both calls against the words; what Build answered.
func (w words) check(t *testing.T, unit string, kind, mode int) int {
	t.Helper()
	said := w.saidClosure(unit, kind)
	var last *api.Job
	n := 0
	for job, must := range Closure(w.g, w.states, unit, kind) {
		want, in := said[job]
		if !in || must != want || last != nil && (last.Unit > job.Unit || last.Unit == job.Unit && last.Kind >= job.Kind) {
			t.Fatalf("%s\nClosure(%s, %d) gave %v, %v, wanted %v", w, unit, kind, job, must, said)
		}
		last = &job
		n++
	}
	if n != len(said) {
		t.Fatalf("%s\nClosure(%s, %d) gave %d, wanted %v", w, unit, kind, n, said)
	}
	l, err := Build(w.g, w.states, w.waits, unit, kind, mode)
	if want, number := w.saidBuild(unit, kind, mode); !slices.Equal(l, want) || int(err) != number {
		t.Fatalf("%s\nBuild(%s, %d, %d) told %v, %d, wanted %v, %d", w, unit, kind, mode, l, err, want, number)
	}
	if err == 0 {
		w.checkFor(t, l, said)
	}
	return int(err)
}

// checkFor: what the layer is for: what is accepted can be ordered, has one job a unit, and all that is required.
func (w words) checkFor(t *testing.T, l []api.Job, said map[api.Job]bool) {
	t.Helper()
	kinds := map[string]int{}
	for _, job := range l {
		if kinds[job.Unit] != 0 {
			t.Fatalf("%s\ntwo jobs of %s: %v", w, job.Unit, l)
		}
		kinds[job.Unit] = job.Kind
	}
	if _, err := order.Sort(w.g, l); err != 0 {
		t.Fatalf("%s\ncan't be ordered: %v", w, l)
	}
	if _, err := order.Sort(w.g, append(l, w.others(kinds)...)); err != 0 {
		t.Fatalf("%s\ncan't be ordered with what waits: %v", w, l)
	}
	for job, must := range said {
		kind := kinds[job.Unit]
		done := kind == job.Kind || job.Kind == 1 && kind == 3 || job.Kind == 3 && kind == 1 && w.down(job.Unit)
		done = done || kind == 0 && (job.Kind == 1 && w.state(job.Unit) == 3 || job.Kind == 2 && w.down(job.Unit))
		if must && !done {
			t.Fatalf("%s\n%v is required: %v", w, job, l)
		}
	}
}

func (w words) String() string {
	text := ""
	for u := range w.g.Units() {
		text += fmt.Sprintf("%s (%d):", u.Name, u.Load)
		for e := range w.g.Edges(u.Name) {
			text += fmt.Sprintf(" %d>%s", e.Kind, e.To)
		}
		text += "\n"
	}
	for _, s := range w.states {
		text += fmt.Sprint(s.Name, s.State, " ")
	}
	return text + fmt.Sprint(w.waits)
}

func TestAllPairs(t *testing.T) { // P17.1, P17.2, P17.3: of two units all edges between them, all states, kinds and modes
	kinds := []int{1, 2, 3, 4, 5}
	a, b := "a.service", "b.service"
	seen := map[int]int{}
	for bits := range 1 << 10 {
		u, v := api.Unit{Name: a, Kind: 1, Load: 1, Plain: true}, api.Unit{Name: b, Kind: 1, Load: 1, Plain: true}
		for i, kind := range kinds {
			if bits>>i&1 == 1 {
				related(&u, kind, b)
			}
			if bits>>(i+5)&1 == 1 {
				related(&v, kind, a)
			}
		}
		if bits%3 == 0 {
			u.After = []string{b}
		}
		if bits%5 < 2 {
			v.After = []string{a}
		}
		if bits%7 == 0 {
			v.Load = 3
		}
		g := graph.New()
		g.Add(u)
		if bits%11 != 0 {
			g.Add(v)
		}
		for states := range 25 {
			w := words{g: g, names: []string{a, b}, states: []api.Status{{Name: a, State: 1 + states%5}, {Name: b, State: 1 + states/5}}}
			for kind := 1; kind <= 3; kind++ {
				mode := []int{1, 2, 3}[(bits+states)%(1+2/kind)]
				w.waits = []api.Job{{Id: 1, Unit: []string{a, b}[states&1], Kind: 1 + bits%3, Running: bits%4 == 0}}
				seen[w.check(t, a, kind, mode)]++
				w.waits = nil
				seen[w.check(t, b, kind, 1)]++
			}
		}
	}
	checkSeen(t, seen)
}

// checkSeen: that all answers came up (ErrTxnKind isn't asked for here).
func checkSeen(t *testing.T, seen map[int]int) {
	t.Helper()
	for _, number := range []int{0, 170, 171, 172, 173} {
		if seen[number] < 20 {
			t.Errorf("answer %d: only %d", number, seen[number])
		}
	}
}

// related: u tells of an edge of the kind to the other unit.
func related(u *api.Unit, kind int, other string) {
	l := []*[]string{&u.Wants, &u.Requires, &u.BindsTo, &u.PartOf, &u.Conflicts, &u.After, &u.Before}[kind-1]
	*l = append(*l, other)
}

// randomCase: units, most of them Loaded, with edges by a choice of kinds, states of some of them and of others, jobs that wait.
func randomCase(choose func(int) int, most int) words {
	var w words
	for i := range 2 + choose(most-1) {
		w.names = append(w.names, fmt.Sprintf("%c%d.service", 'a'+i%26, i))
	}
	units := slices.Clone(w.names)
	w.names = append(w.names, "none.service", "shutdown.target", "x.socket", "", "no name")
	kinds := [][]int{
		{1, 1, 2, 2, 3, 4, 5, 6, 6, 6, 7}, {1, 1, 1, 2, 6, 6, 6, 6, 7, 7}, {1, 2, 3, 4, 4, 4, 5, 6}, {1, 1, 1, 1, 5, 5, 6, 6, 6}, {2, 2, 2, 6, 6, 7}, {1, 2}, {1, 2, 2, 3, 5, 5},
	}[choose(7)]
	w.g = graph.New()
	loads := []int{1, 1, 1, 1, 1, 1, 2, 3, 0}[:9-choose(2)*choose(4)]
	edges := 1 + choose(5)
	forward := choose(2) == 0
	for i, n := range units {
		u := api.Unit{Name: n, Kind: []int{1, 1, 1, 6}[choose(4)], Load: loads[choose(len(loads))], Plain: choose(4) != 0}
		for range choose(edges) {
			other := units[choose(len(units))]
			kind := kinds[choose(len(kinds))]
			if forward && i+1 < len(units) && kind != 5 {
				other = units[i+1+choose(len(units)-i-1)]
			}
			if choose(12) == 0 {
				other = w.names[choose(len(w.names))]
			}
			related(&u, kind, other)
		}
		if choose(15) != 0 {
			w.g.Add(u)
		}
	}
	usual := [][]int{{3}, {1, 3}, {1}, {1, 2, 3, 4, 5, 9, -1}, {3, 3, 3, 2, 5}}[choose(5)]
	for range choose(2 * len(w.names)) {
		w.states = append(w.states, api.Status{Name: w.names[choose(len(w.names))], State: usual[choose(len(usual))], Sub: choose(9)})
	}
	for range choose(1 + choose(len(w.names))) {
		w.waits = append(w.waits, api.Job{Id: choose(99), Unit: w.names[choose(len(w.names))], Kind: []int{1, 1, 1, 2, 3, 0, 7}[choose(7)], Running: choose(3) == 0})
	}
	return w
}

// checkSome: jobs of the case.
func checkSome(t *testing.T, w words, choose func(int) int, seen map[int]int) {
	t.Helper()
	for range 4 {
		kind, mode := 1+choose(3), 1+choose(2)
		if kind == 1 && choose(3) == 0 {
			mode = 3
		}
		seen[w.check(t, w.names[choose(len(w.names))], kind, mode)]++
	}
	w.check(t, w.names[choose(len(w.names))], choose(7)-1, choose(7)-1)
}

func TestRandomTransactions(t *testing.T) { // P17.1, P17.2, P17.3
	seen := map[int]int{}
	for seed := range 12000 {
		choose := rand.New(rand.NewSource(int64(seed))).Intn
		checkSome(t, randomCase(choose, 2+seed%12), choose, seen)
	}
	checkSeen(t, seen)
}

func TestUnitsAtTheLimit(t *testing.T) { // P17.1, P17.2, P17.3: up to MaxUnits
	seen := map[int]int{}
	for seed := range 250 {
		choose := rand.New(rand.NewSource(int64(seed))).Intn
		checkSome(t, randomCase(choose, api.MaxUnits), choose, seen)
	}
	if seen[0] < 100 {
		t.Error(seen)
	}
}

func FuzzTransactions(f *testing.F) { // P17.1, P17.2, P17.3
	f.Add([]byte{3, 1, 0, 1, 2, 1, 5, 0, 99, 3, 1, 4, 2, 1, 7, 7, 3, 1, 2, 9})
	f.Add([]byte("11,0,1,2,0,1,0,1,0,2,0,0,3,0,7,0,1,0,5,2,2,6,1,4,3,3,2"))
	f.Fuzz(func(t *testing.T, bytes []byte) {
		left := bytes
		choose := func(n int) int {
			if len(left) == 0 {
				return 0
			}
			c := int(left[0]) % n
			left = left[1:]
			return c
		}
		checkSome(t, randomCase(choose, 12), choose, map[int]int{})
	})
}
