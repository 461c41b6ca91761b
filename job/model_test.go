package job

import (
	"fmt"
	"math/rand"
	"slices"
	"sort"
	"testing"

	"reveille/api"
	"reveille/graph"
)

// said: what the document says of jobs, word by word, over a list in no order.
type said struct {
	next int
	jobs []api.Job
}

// world: units, and of which pairs the first one comes after the second one, and needs it.
type world struct {
	units        []api.Unit
	after, needs map[[2]string]bool
	graph        *graph.Graph
}

// worldOf: of Plain units, which relations lead from to others, there or not.
func worldOf(t *testing.T, units []api.Unit) world {
	t.Helper()
	w := world{units, map[[2]string]bool{}, map[[2]string]bool{}, graph.New()}
	for _, u := range units {
		for _, v := range u.After {
			w.after[[2]string{u.Name, v}] = true
		}
		for _, v := range u.Before {
			w.after[[2]string{v, u.Name}] = true
		}
		for _, v := range append(slices.Clone(u.Requires), u.BindsTo...) {
			w.needs[[2]string{u.Name, v}] = true
		}
		if err := w.graph.Add(u); err != 0 {
			t.Fatal(err)
		}
	}
	return w
}

// waits: P16.1.
func (w world) waits(a, b api.Job) bool {
	u, v := a.Unit, b.Unit
	if u == v || !w.after[[2]string{u, v}] && !w.after[[2]string{v, u}] {
		return false
	}
	if (a.Kind == 2) != (b.Kind == 2) {
		return b.Kind == 2
	}
	if a.Kind == 2 {
		return w.after[[2]string{v, u}]
	}
	return w.after[[2]string{u, v}]
}

func saidNew(next int) *said { return &said{next: max(1, next)} }

// find: the place of the one that fits, or -1.
func (s *said) find(fits func(api.Job) bool) int { return slices.IndexFunc(s.jobs, fits) }

// take: the job at that place is gone.
func (s *said) take(place, result int) api.Ended {
	job := s.jobs[place]
	s.jobs = append(s.jobs[:place:place], s.jobs[place+1:]...)
	return api.Ended{Id: job.Id, Unit: job.Unit, Kind: job.Kind, Result: result}
}

func (s *said) add(l []api.Job) []api.Ended { // P18.1
	var ended []api.Ended
	for _, job := range l {
		if job.Unit == "" || job.Kind != 1 && job.Kind != 2 && job.Kind != 3 {
			continue
		}
		place := s.find(func(a api.Job) bool { return a.Unit == job.Unit })
		if place >= 0 && s.jobs[place].Kind == job.Kind {
			continue
		}
		if place >= 0 {
			ended = append(ended, s.take(place, 5))
		}
		s.jobs = append(s.jobs, api.Job{Id: s.next, Unit: job.Unit, Kind: job.Kind})
		s.next++
	}
	return ended
}

func (s *said) all() []api.Job { // P18.1
	l := slices.Clone(s.jobs)
	sort.Slice(l, func(a, b int) bool { return l[a].Id < l[b].Id })
	return l
}

func (s *said) ready(w world) []api.Job { // P18.2
	var l []api.Job
	for _, a := range s.all() {
		if !a.Running && s.find(func(b api.Job) bool { return w.waits(a, b) }) < 0 {
			l = append(l, a)
		}
	}
	return l
}

func (s *said) run(id int) int { // P18.2
	place := s.find(func(a api.Job) bool { return a.Id == id })
	if place < 0 || s.jobs[place].Running {
		return 180
	}
	s.jobs[place].Running = true
	return 0
}

func (s *said) turn(id int) int { // P18.2
	place := s.find(func(a api.Job) bool { return a.Id == id && a.Kind == 3 && a.Running })
	if place < 0 {
		return 180
	}
	s.jobs[place].Kind = 1
	return 0
}

func (s *said) end(w world, id, result int) ([]api.Ended, int) { // P18.2
	place := s.find(func(a api.Job) bool { return a.Id == id })
	if place < 0 || result < 1 || result > 6 {
		return nil, 180
	}
	first := s.take(place, result)
	if first.Kind == 2 || result == 1 || result == 5 || result == 6 {
		return []api.Ended{first}, 0
	}
	failed := map[string]bool{first.Unit: true}
	var others []api.Ended
	for more := true; more; {
		place := s.find(func(a api.Job) bool {
			if a.Kind == 2 || a.Running {
				return false
			}
			for unit := range failed {
				if w.needs[[2]string{a.Unit, unit}] {
					return true
				}
			}
			return false
		})
		if more = place >= 0; more {
			failed[s.jobs[place].Unit] = true
			others = append(others, s.take(place, 4))
		}
	}
	sort.Slice(others, func(a, b int) bool { return others[a].Id < others[b].Id })
	return append([]api.Ended{first}, others...), 0
}

func (s *said) restore(l []api.Job) int { // P18.3
	for i, a := range l {
		if a.Unit == "" || a.Id < 1 || a.Id >= s.next || a.Kind < 1 || a.Kind > 3 {
			return 180
		}
		for _, b := range l[:i] {
			if a.Id == b.Id || a.Unit == b.Unit {
				return 180
			}
		}
	}
	s.jobs = slices.Clone(l)
	return 0
}

// pair: the program's jobs and the document's, which are to be alike; how often each Id ended.
type pair struct {
	w     world
	got   *Jobs
	want  *said
	units []string
	trace []call
	ended map[int]int
	held  map[int]bool // Ids that were there and have to end
}

func pairOf(w world, next int, units []string) *pair {
	return &pair{w: w, got: New(next), want: saidNew(next), units: units, ended: map[int]int{}, held: map[int]bool{}}
}

// act: one call on both.
func (p *pair) act(t *testing.T, what string, id, result int, l []api.Job) {
	t.Helper()
	p.trace = append(p.trace, call{what, id, result, slices.Clone(l)})
	var ended, wanted []api.Ended
	var err, number int
	switch what {
	case "add":
		ended, wanted = p.got.Add(l), p.want.add(l)
	case "run":
		err, number = int(p.got.Run(id)), p.want.run(id)
	case "turn":
		err, number = int(p.got.Turn(id)), p.want.turn(id)
	case "end":
		var e api.Errno
		ended, e = p.got.End(p.w.graph, id, result)
		wanted, number = p.want.end(p.w, id, result)
		err = int(e)
	case "restore":
		err, number = int(p.got.Restore(l)), p.want.restore(l)
		if err == 0 {
			clear(p.held)
			clear(p.ended)
		}
	}
	if !slices.Equal(ended, wanted) || err != number {
		t.Fatalf("%v: told %v, %d, wanted %v, %d", p.trace, ended, err, wanted, number)
	}
	p.count(t, ended)
	p.check(t)
}

// count: P18.4: what is there ends once, and isn't there then.
func (p *pair) count(t *testing.T, ended []api.Ended) {
	t.Helper()
	for _, e := range ended {
		p.ended[e.Id]++
		delete(p.held, e.Id)
	}
	there := map[int]bool{}
	for job := range p.got.All() {
		there[job.Id] = true
		if p.ended[job.Id] > 0 {
			t.Fatalf("%v: %v is there and ended", p.trace, job)
		}
	}
	for id := range p.held {
		if !there[id] {
			t.Fatalf("%v: %d is gone and didn't end", p.trace, id)
		}
	}
	for id, times := range p.ended {
		if times > 1 {
			t.Fatalf("%v: %d ended %d times", p.trace, id, times)
		}
	}
	p.held = there
}

// check: all that can be asked.
func (p *pair) check(t *testing.T) {
	t.Helper()
	all, ready := slices.Collect(p.got.All()), slices.Collect(p.got.Ready(p.w.graph))
	if !slices.Equal(all, p.want.all()) || !slices.Equal(ready, p.want.ready(p.w)) || p.got.Next() != p.want.next {
		t.Fatalf("%v: All %v, Ready %v, Next %d; wanted %v, %v, %d", p.trace, all, ready, p.got.Next(), p.want.all(), p.want.ready(p.w), p.want.next)
	}
	for _, unit := range p.units {
		job, there := p.got.Of(unit)
		place := p.want.find(func(a api.Job) bool { return a.Unit == unit })
		if there != (place >= 0) || there && job != p.want.jobs[place] || !there && job != (api.Job{}) {
			t.Fatalf("%v: Of(%q): %v, %v", p.trace, unit, job, there)
		}
	}
	for _, a := range ready { // P18.4
		for _, b := range all {
			if p.w.waits(a, b) {
				t.Fatalf("%v: %v is ready and waits for %v", p.trace, a, b)
			}
		}
	}
}

// call: one that is chosen for the rows of all calls.
type call struct {
	what       string
	id, result int
	jobs       []api.Job
}

func TestAllShortRows(t *testing.T) { // P18.1 to P18.4: all rows of four of these calls
	a, b := "a.service", "b.service"
	w := worldOf(t, []api.Unit{
		{Name: a, Kind: api.Service, Plain: true, Requires: []string{b}, After: []string{b}},
		{Name: b, Kind: api.Service, Plain: true},
	})
	calls := []call{
		{what: "add", jobs: []api.Job{{Unit: a, Kind: 1}, {Unit: b, Kind: 1}}},
		{what: "add", jobs: []api.Job{{Unit: b, Kind: 2}}},
		{what: "add", jobs: []api.Job{{Unit: b, Kind: 3}, {Unit: a, Kind: 3}}},
		{what: "run", id: 1}, {what: "run", id: 2}, {what: "run", id: 3},
		{what: "turn", id: 1}, {what: "turn", id: 2},
		{what: "end", id: 1, result: 1}, {what: "end", id: 1, result: 2}, {what: "end", id: 2, result: 3}, {what: "end", id: 3, result: 4}, {what: "end", id: 2, result: 0},
		{what: "restore", jobs: []api.Job{{Id: 2, Unit: b, Kind: 3, Running: true}, {Id: 1, Unit: a, Kind: 1}}},
		{what: "restore"},
	}
	const length = 4
	rows := 1
	for range length {
		rows *= len(calls)
	}
	for code := range rows {
		p := pairOf(w, 0, []string{a, b, ""})
		for left, n := code, 0; n < length; left, n = left/len(calls), n+1 {
			c := calls[left%len(calls)]
			p.act(t, c.what, c.id, c.result, c.jobs)
		}
	}
}

func TestAllNeedsOfFour(t *testing.T) { // P18.2: all RRequires among four units, all of whose jobs but the first may run or be stops
	names := []string{"a.service", "b.service", "c.service", "d.service"}
	for bits := range 1 << 12 {
		var units []api.Unit
		left := bits
		for i, n := range names {
			u := api.Unit{Name: n, Kind: api.Service, Plain: true}
			for k, m := range names {
				if k == i {
					continue
				}
				if left&1 != 0 {
					u.Requires = append(u.Requires, m)
				}
				left >>= 1
			}
			if bits%3 == 1 {
				u.Requires, u.BindsTo = nil, u.Requires
			}
			units = append(units, u)
		}
		w := worldOf(t, units)
		for code := range 27 {
			l := []api.Job{{Id: 3, Unit: names[0], Kind: 1}}
			for i, c := range []int{code % 3, code / 3 % 3, code / 9} {
				l = append(l, api.Job{Id: []int{4, 1, 2}[i], Unit: names[i+1], Kind: []int{1, 3, 2}[c], Running: c == 1})
			}
			p := pairOf(w, 5, names)
			p.act(t, "restore", 0, 0, l)
			p.act(t, "end", 3, 2+bits%3, nil)
		}
	}
}

// randomWorld: up to nine units; relations lead from them to each other and to units that aren't there.
func randomWorld(t *testing.T, choose func(int) int) (world, []string) {
	t.Helper()
	var names []string
	for i := range 1 + choose(9) {
		names = append(names, fmt.Sprintf("%c%d.service", 'i'-i, i))
	}
	all := append(slices.Clone(names), "none.service", "other.service")
	dense := []int{5, 15, 35}[choose(3)]
	some := func() []string {
		var l []string
		for _, n := range all {
			if choose(100) < dense {
				l = append(l, n)
			}
		}
		return l
	}
	var units []api.Unit
	for _, n := range names {
		u := api.Unit{Name: n, Kind: api.Service, Plain: true, Wants: some(), Requires: some(), BindsTo: some(), PartOf: some(), Conflicts: some(), After: some(), Before: some()}
		for _, l := range []*[]string{&u.Requires, &u.BindsTo, &u.After, &u.Before} { // an edge to itself is none
			*l = slices.DeleteFunc(*l, func(m string) bool { return m == n })
		}
		units = append(units, u)
	}
	return worldOf(t, units), append(all, "", "no name")
}

// randomJob: often one that could be there.
func randomJob(choose func(int) int, p *pair) api.Job {
	job := api.Job{Id: choose(p.want.next + 2), Unit: p.units[choose(len(p.units))], Kind: 1 + choose(3), Running: choose(3) == 0}
	if choose(40) == 0 {
		job.Kind = choose(6) - 1
	}
	return job
}

// randomAct: mostly of what is there.
func randomAct(t *testing.T, choose func(int) int, p *pair) {
	t.Helper()
	id := choose(p.want.next + 1)
	if all := p.want.all(); len(all) > 0 && choose(8) != 0 {
		id = all[choose(len(all))].Id
	}
	switch choose(12) {
	case 0, 1, 2, 3:
		var l []api.Job
		for range choose(6) {
			l = append(l, randomJob(choose, p))
		}
		p.act(t, "add", 0, 0, l)
	case 4, 5:
		p.act(t, "run", id, 0, nil)
	case 6:
		p.act(t, "turn", id, 0, nil)
	case 7, 8, 9:
		p.act(t, "end", id, choose(8), nil)
	case 10: // what is there, handed on
		p.act(t, "restore", 0, 0, p.want.all())
	case 11:
		l := p.want.all()
		if len(l) > 0 && choose(2) == 0 {
			l[choose(len(l))].Id = choose(p.want.next + 1)
		}
		if choose(2) == 0 {
			l = append(l, randomJob(choose, p))
		}
		p.act(t, "restore", 0, 0, l)
	}
}

func TestRandomRows(t *testing.T) { // P18.1 to P18.4
	cascades := 0
	for seed := range 1200 {
		choose := rand.New(rand.NewSource(int64(seed))).Intn
		w, units := randomWorld(t, choose)
		p := pairOf(w, choose(4)-1, units)
		for range 60 {
			before := len(p.ended)
			randomAct(t, choose, p)
			if len(p.ended) > before+2 {
				cascades++
			}
		}
	}
	if cascades < 500 { // they are to be seen
		t.Errorf("%d ends took others along", cascades)
	}
}

func FuzzJobs(f *testing.F) { // P18.1 to P18.4
	f.Add([]byte{3, 1, 0, 1, 2, 1, 5, 0, 99, 3, 1, 4, 2, 1})
	f.Add([]byte("71,0,1,2,0,1,0,1,0,2,0,0,3,0,7,0,1,0abcdefghijklmnopqrstuvwxyz0123456789"))
	f.Fuzz(func(t *testing.T, bytes []byte) {
		left := bytes
		choose := func(n int) int {
			if len(left) == 0 {
				return 0
			}
			c := int(left[0]) % n
			left = left[1:]
			return c
		}
		w, units := randomWorld(t, choose)
		p := pairOf(w, choose(4)-1, units)
		for range 200 {
			if len(left) == 0 {
				return
			}
			randomAct(t, choose, p)
		}
	})
}
