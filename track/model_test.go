package track

import (
	"fmt"
	"math"
	"math/rand"
	"slices"
	"sort"
	"testing"
)

// said: what the document says of processes and units, word by word, over a list of pairs in no order.
type said []fact

// fact: that process is of that unit.
type fact struct {
	pid  int
	unit string
}

// find: the place of the process, or -1.
func (s said) find(pid int) int {
	for i, f := range s {
		if f.pid == pid {
			return i
		}
	}
	return -1
}

func (s said) unit(pid int) (string, bool) { // P19.1
	if i := s.find(pid); i >= 0 {
		return s[i].unit, true
	}
	return "", false
}

func (s said) pids(unit string) []int { // P19.1
	var l []int
	for _, f := range s {
		if f.unit == unit {
			l = append(l, f.pid)
		}
	}
	sort.Ints(l)
	return l
}

func (s said) units() []string { // P19.1
	var l []string
	for _, f := range s {
		if !slices.Contains(l, f.unit) {
			l = append(l, f.unit)
		}
	}
	sort.Strings(l)
	return l
}

func (s *said) add(unit string, pid int) int { // P19.1
	if unit == "" || pid < 2 || s.find(pid) >= 0 {
		return 190
	}
	*s = append(*s, fact{pid, unit})
	return 0
}

func (s *said) fork(parent, child int) int { // P19.1
	unit, there := s.unit(parent)
	if !there {
		return 190
	}
	return s.add(unit, child)
}

func (s *said) gone(pid int) (string, int) { // P19.1
	i := s.find(pid)
	if i < 0 {
		return "", 190
	}
	unit := (*s)[i].unit
	*s = append((*s)[:i:i], (*s)[i+1:]...)
	return unit, 0
}

func (s *said) sync(unit string, pids []int) (int, int) { // P19.2
	if unit == "" {
		return 0, 0
	}
	before := s.pids(unit)
	for _, pid := range before {
		s.gone(pid)
	}
	for _, pid := range pids {
		if pid >= 2 {
			s.gone(pid)
			s.add(unit, pid)
		}
	}
	after, came, left := s.pids(unit), 0, 0
	for _, pid := range after {
		if !slices.Contains(before, pid) {
			came++
		}
	}
	for _, pid := range before {
		if !slices.Contains(after, pid) {
			left++
		}
	}
	return came, left
}

func (s said) targets(unit string, mode, main, control int) []int { // P19.3
	if mode == 1 {
		return s.pids(unit)
	}
	var l []int
	if mode == 2 {
		if main > 1 {
			l = append(l, main)
		}
		if control > 1 && control != main {
			l = append(l, control)
		}
		sort.Ints(l)
	}
	return l
}

// call: one of a track.
type call struct {
	what string
	unit string
	a, b int
	pids []int
}

// pair: the program's track and the document's, which are to be alike.
type pair struct {
	got   *Track
	want  said
	units []string
	most  int // the greatest number that is asked for
	trace []call
}

func (p *pair) act(t *testing.T, c call) {
	t.Helper()
	p.trace = append(p.trace, c)
	var got, want string
	switch c.what {
	case "add":
		got, want = fmt.Sprint(int(p.got.Add(c.unit, c.a))), fmt.Sprint(p.want.add(c.unit, c.a))
	case "fork":
		got, want = fmt.Sprint(int(p.got.Fork(c.a, c.b))), fmt.Sprint(p.want.fork(c.a, c.b))
	case "gone":
		unit, err := p.got.Gone(c.a)
		wanted, number := p.want.gone(c.a)
		got, want = fmt.Sprint(unit, int(err)), fmt.Sprint(wanted, number)
	case "sync":
		given := slices.Clone(c.pids)
		got, want = fmt.Sprint(p.got.Sync(c.unit, c.pids)), fmt.Sprint(p.want.sync(c.unit, c.pids))
		if !slices.Equal(given, c.pids) {
			t.Fatalf("%v: it changed %v", p.trace, given)
		}
	}
	if got != want {
		t.Fatalf("%v: told %s, wanted %s", p.trace, got, want)
	}
	p.check(t)
}

// check: all that can be asked.
func (p *pair) check(t *testing.T) {
	t.Helper()
	if got := slices.Collect(p.got.Units()); !slices.Equal(got, p.want.units()) {
		t.Fatalf("%v: Units %v, wanted %v", p.trace, got, p.want.units())
	}
	homes := 0
	for _, unit := range p.units {
		got, want := slices.Collect(p.got.Pids(unit)), p.want.pids(unit)
		if !slices.Equal(got, want) {
			t.Fatalf("%v: Pids(%q) %v, wanted %v", p.trace, unit, got, want)
		}
		homes += len(got)
		for mode := range 5 {
			main, control := mode+len(p.trace)%3-1, len(p.trace)%(p.most+1)
			if got, want := p.got.Targets(unit, mode, main, control), p.want.targets(unit, mode, main, control); !slices.Equal(got, want) {
				t.Fatalf("%v: Targets(%q, %d, %d, %d) %v, wanted %v", p.trace, unit, mode, main, control, got, want)
			}
		}
	}
	for pid := -1; pid <= p.most; pid++ {
		unit, there := p.got.Unit(pid)
		wanted, is := p.want.unit(pid)
		if unit != wanted || there != is {
			t.Fatalf("%v: Unit(%d) %q, %v, wanted %q, %v", p.trace, pid, unit, there, wanted, is)
		}
		if there { // P19.4
			homes--
		}
	}
	if homes != 0 {
		t.Fatalf("%v: a process is of two units or of none", p.trace)
	}
}

func TestAllShortRows(t *testing.T) { // P19.1 to P19.4: all rows of four of these calls
	calls := []call{
		{what: "add", unit: "a", a: 2}, {what: "add", unit: "b", a: 2}, {what: "add", unit: "b", a: 3}, {what: "add", unit: "", a: 3}, {what: "add", unit: "a", a: 1},
		{what: "fork", a: 2, b: 3}, {what: "fork", a: 3, b: 4}, {what: "fork", a: 4, b: 1},
		{what: "gone", a: 2}, {what: "gone", a: 3}, {what: "gone", a: 4},
		{what: "sync", unit: "a", pids: []int{4, 2}}, {what: "sync", unit: "a", pids: []int{3, 1, 3}}, {what: "sync", unit: "b"}, {what: "sync", unit: "b", pids: []int{2}}, {what: "sync", unit: "", pids: []int{2}},
	}
	const length = 4
	rows := 1
	for range length {
		rows *= len(calls)
	}
	for code := range rows {
		p := &pair{got: New(), units: []string{"", "a", "b"}, most: 4}
		for left, n := code, 0; n < length; left, n = left/len(calls), n+1 {
			p.act(t, calls[left%len(calls)])
		}
	}
}

func TestAllSyncs(t *testing.T) { // P19.2: each five processes are a's, b's or nobody's, whichever of them a is handed
	for homes := range 3 * 3 * 3 * 3 * 3 {
		for pids := range 1 << 5 {
			p := &pair{got: New(), units: []string{"a", "b"}, most: 6}
			var given []int
			for i, left := 0, homes; i < 5; i, left = i+1, left/3 {
				if left%3 > 0 {
					p.act(t, call{what: "add", unit: p.units[left%3-1], a: 2 + i})
				}
				if pids>>i&1 != 0 {
					given = append(given, 2+i)
				}
			}
			p.act(t, call{what: "sync", unit: "a", pids: given})
		}
	}
}

// randomAct: mostly of what is there.
func randomAct(t *testing.T, choose func(int) int, p *pair) {
	t.Helper()
	pid := func() int {
		if len(p.want) > 0 && choose(3) == 0 {
			return p.want[choose(len(p.want))].pid
		}
		return choose(p.most+2) - 1
	}
	unit := p.units[choose(len(p.units))]
	switch choose(9) {
	case 0, 1:
		p.act(t, call{what: "add", unit: unit, a: pid()})
	case 2, 3:
		p.act(t, call{what: "fork", a: pid(), b: pid()})
	case 4, 5:
		p.act(t, call{what: "gone", a: pid()})
	case 6: // those that it has, but some of them
		l := p.want.pids(unit)
		l = slices.DeleteFunc(l, func(int) bool { return choose(3) == 0 })
		p.act(t, call{what: "sync", unit: unit, pids: append(l, pid())})
	case 7:
		var l []int
		for range choose(8) {
			l = append(l, pid())
		}
		p.act(t, call{what: "sync", unit: unit, pids: l})
	case 8:
		if choose(4) == 0 {
			p.act(t, call{what: "sync", unit: unit, pids: []int{math.MinInt, pid(), 1}})
		}
	}
}

// randomPair: a few units and processes, which meet often.
func randomPair(choose func(int) int) *pair {
	all := []string{"a.service", "b.service", "a.servic", "B", "c@1.service", "\xff", "zz"}
	return &pair{got: New(), units: append([]string{""}, all[:1+choose(len(all))]...), most: 3 + choose(12)}
}

func TestRandomRows(t *testing.T) { // P19.1 to P19.4
	for seed := range 2000 {
		choose := rand.New(rand.NewSource(int64(seed))).Intn
		p := randomPair(choose)
		for range 60 {
			randomAct(t, choose, p)
		}
	}
}

func FuzzTrack(f *testing.F) { // P19.1 to P19.4
	f.Add([]byte{3, 7, 1, 0, 2, 2, 3, 4, 1, 6, 2, 7, 1, 4})
	f.Add([]byte("71,0,1,2,0,1,0,1,0,2,0,0,3,0,7,0,1,0abcdefghijklmnopqrstuvwxyz0123456789"))
	f.Fuzz(func(t *testing.T, bytes []byte) {
		left := bytes
		choose := func(n int) int {
			if len(left) == 0 {
				return 0
			}
			c := int(left[0]) % n
			left = left[1:]
			return c
		}
		p := randomPair(choose)
		for range 200 {
			if len(left) == 0 {
				return
			}
			randomAct(t, choose, p)
		}
	})
}
