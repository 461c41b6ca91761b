package loop

import (
	"fmt"
	"math"
	"math/rand"
	"slices"
	"strings"
	"testing"

	"reveille/api"
)

// model: a loop by the document's words: the events that wait, as they were pushed, and the timers that are set, in no order.
type model struct {
	events []api.Event
	timers []api.Due
}

func (m *model) push(e api.Event) int {
	if !slices.Contains([]int{1, 2, 3, 4, 5, 6}, e.Kind) {
		return 140
	}
	m.events = append(m.events, e)
	return 0
}

func (m *model) next() (api.Event, bool) {
	for kind := 1; kind <= 6; kind++ {
		for i, e := range m.events {
			if e.Kind == kind {
				m.events = slices.Delete(m.events, i, i+1)
				return e, true
			}
		}
	}
	return api.Event{}, false
}

func (m *model) all() []api.Event {
	rest := &model{events: slices.Clone(m.events)}
	var all []api.Event
	for e, ok := rest.next(); ok; e, ok = rest.next() {
		all = append(all, e)
	}
	return all
}

func (m *model) set(unit, which string, at int64) {
	m.timers = slices.DeleteFunc(m.timers, func(d api.Due) bool { return d.Unit == unit && d.Which == which })
	if at < math.MaxInt64 {
		m.timers = append(m.timers, api.Due{Unit: unit, Which: which, At: at})
	}
}

func (m *model) at(unit, which string) int64 {
	for _, d := range m.timers {
		if d.Unit == unit && d.Which == which {
			return d.At
		}
	}
	return math.MaxInt64
}

// rises: whether b is above a: by the first byte that is unlike, a shorter one ahead of one that begins like it.
func rises(a, b string) bool {
	for i := range len(a) {
		if i == len(b) {
			return false
		}
		if a[i] != b[i] {
			return a[i] < b[i]
		}
	}
	return len(a) < len(b)
}

// ahead: by At, then unit, then which.
func ahead(a, b api.Due) bool {
	if a.At != b.At {
		return a.At < b.At
	}
	if a.Unit != b.Unit {
		return rises(a.Unit, b.Unit)
	}
	return rises(a.Which, b.Which)
}

// sorted: all that are set: each stands behind those that are ahead of it.
func (m *model) sorted() []api.Due {
	row := make([]api.Due, len(m.timers))
	for _, d := range m.timers {
		place := 0
		for _, other := range m.timers {
			if ahead(other, d) {
				place++
			}
		}
		row[place] = d
	}
	return row
}

func (m *model) elapse(now int64) []api.Due {
	var due []api.Due
	for _, d := range m.sorted() {
		if d.At <= now {
			due = append(due, d)
			m.set(d.Unit, d.Which, math.MaxInt64)
		}
	}
	return due
}

func (m *model) soonest() int64 {
	least := int64(math.MaxInt64)
	for _, d := range m.timers {
		least = min(least, d.At)
	}
	return least
}

func (m *model) forget(unit string) int {
	was := len(m.events) + len(m.timers)
	m.events = slices.DeleteFunc(m.events, func(e api.Event) bool { return e.Unit == unit })
	m.timers = slices.DeleteFunc(m.timers, func(d api.Due) bool { return d.Unit == unit })
	return was - len(m.events) - len(m.timers)
}

// pair: a loop and its model, told the same.
type pair struct {
	l   *Loop
	m   *model
	pid int // of the last event, so that no two are alike
}

func newPair() *pair { return &pair{l: New(), m: &model{}} }

func (p *pair) push(t *testing.T, where any, kind int, unit string) {
	t.Helper()
	p.pid++
	e := api.Event{Kind: kind, Pid: p.pid, Unit: unit}
	if got, want := p.l.Push(e), p.m.push(e); int(got) != want {
		t.Fatalf("%v: Push of %v told %d, wanted %d", where, e, got, want)
	}
}

func (p *pair) next(t *testing.T, where any) {
	t.Helper()
	got, ok := p.l.Next()
	if want, some := p.m.next(); got != want || ok != some {
		t.Fatalf("%v: Next told %v, %v, wanted %v, %v", where, got, ok, want, some)
	}
}

func (p *pair) set(unit, which string, at int64) {
	p.l.Set(unit, which, at)
	p.m.set(unit, which, at)
}

func (p *pair) elapse(t *testing.T, where any, now int64) {
	t.Helper()
	if got, want := p.l.Elapse(now), p.m.elapse(now); !slices.Equal(got, want) {
		t.Fatalf("%v: Elapse(%d) told %v, wanted %v", where, now, got, want)
	}
}

func (p *pair) forget(t *testing.T, where any, unit string) {
	t.Helper()
	if got, want := p.l.Forget(unit), p.m.forget(unit); got != want {
		t.Fatalf("%v: Forget(%q) told %d, wanted %d", where, unit, got, want)
	}
}

// check: what can be asked without a change.
func (p *pair) check(t *testing.T, where any) {
	t.Helper()
	if got, want := slices.Collect(p.l.All()), p.m.all(); !slices.Equal(got, want) || p.l.Len() != len(want) {
		t.Fatalf("%v: All gave %v, wanted %v; Len %d", where, got, want, p.l.Len())
	}
	if got, want := slices.Collect(p.l.Timers()), p.m.sorted(); !slices.Equal(got, want) {
		t.Fatalf("%v: Timers gave %v, wanted %v", where, got, want)
	}
	if got, want := p.l.Soonest(), p.m.soonest(); got != want {
		t.Fatalf("%v: Soonest told %d, wanted %d", where, got, want)
	}
}

// checkAt: of one timer.
func (p *pair) checkAt(t *testing.T, where any, unit, which string) {
	t.Helper()
	if got, want := p.l.At(unit, which), p.m.at(unit, which); got != want {
		t.Fatalf("%v: At(%q, %q) told %d, wanted %d", where, unit, which, got, want)
	}
}

// do: a call: `+1a` pushes kind 1 of unit a, `>` is Next, `=ax5` sets a timer, `=ax*` to Forever, `@5` is Elapse, `-a` is Forget.
func (p *pair) do(t *testing.T, where any, call string) {
	t.Helper()
	switch call[0] {
	case '+':
		p.push(t, where, int(call[1]-'0'), call[2:])
	case '>':
		p.next(t, where)
	case '=':
		p.set(call[1:2], call[2:3], digit(call[3]))
	case '@':
		p.elapse(t, where, digit(call[1]))
	case '-':
		p.forget(t, where, call[1:])
	}
}

func digit(c byte) int64 {
	if c == '*' {
		return math.MaxInt64
	}
	return int64(c - '0')
}

// each: all rows of just so many of the calls.
func each(calls []string, length int, do func([]string)) {
	row := make([]string, length)
	var fill func(int)
	fill = func(i int) {
		if i == length {
			do(row)
			return
		}
		for _, c := range calls {
			row[i] = c
			fill(i + 1)
		}
	}
	fill(0)
}

func TestAllShortRowsOfCalls(t *testing.T) { // P14.1, P14.2, P14.3
	for _, part := range []struct {
		first, calls string
		most         int
	}{
		{"", "+1a +1b +5a +6b +0a +7a > -a -b", 5},
		{"+5a +1b +5b", "+1a +5a > -a -b", 6},
		{"", "=ax1 =ax2 =ay1 =bx1 =bx3 =ax* =by* @1 @2 -a", 5},
		{"=ax1 =ay2 =bx2", "=ax3 =bx1 =ay* @0 @1 @2 @3 @* -b", 5},
		{"", "+1a +5b +2b > =ax1 =bx2 =ax* @1 @2 -a -b", 4},
	} {
		for length := range part.most + 1 {
			each(strings.Fields(part.calls), length, func(row []string) {
				p := newPair()
				calls := append(strings.Fields(part.first), row...)
				for _, c := range calls {
					p.do(t, calls, c)
				}
				p.check(t, calls)
				for _, k := range []string{"ax", "ay", "bx", "by"} {
					p.checkAt(t, calls, k[:1], k[1:])
				}
			})
		}
	}
}

// units, whiches and times: the edges among them.
func units() []string { return []string{"", "a", "b", "ab", "a\x00", "A", "\xff", "a.service"} }

func whiches() []string { return []string{"", "main", "watch", "a", "b\x80"} }

func times() []int64 {
	return []int64{math.MinInt64, math.MinInt64 + 1, -1, 0, 1, 2, 3, 5, 8, math.MaxInt64 - 1, math.MaxInt64}
}

// step: a call that the numbers choose.
func (p *pair) step(t *testing.T, where any, choose func(int) int) {
	t.Helper()
	unit, which, at := units()[choose(8)], whiches()[choose(5)], times()[choose(11)]
	switch choose(16) {
	case 0, 1, 2, 3:
		p.push(t, where, choose(8), unit)
	case 4, 5, 6:
		p.next(t, where)
	case 7:
		p.forget(t, where, unit)
	case 8:
		p.elapse(t, where, at)
	case 9:
		p.elapse(t, where, -2)
	default:
		p.set(unit, which, at)
	}
	p.check(t, where)
	p.checkAt(t, where, unit, which)
	p.checkAt(t, where, which, unit)
}

// drain: all that waits and all that is set is told.
func (p *pair) drain(t *testing.T, where any) {
	t.Helper()
	for range p.l.Len() + 1 {
		p.next(t, where)
	}
	p.elapse(t, where, 2)
	p.elapse(t, where, math.MaxInt64-1)
	p.check(t, where)
	if p.l.Len() != 0 || p.l.Soonest() != math.MaxInt64 {
		t.Fatalf("%v: something is left", where)
	}
}

func TestCallsAgainstWords(t *testing.T) { // P14.1, P14.2, P14.3
	for seed := range 400 {
		r := rand.New(rand.NewSource(int64(seed)))
		p := newPair()
		where := fmt.Sprint("seed ", seed)
		for range 150 {
			p.step(t, where, r.Intn)
		}
		p.drain(t, where)
	}
}

func FuzzCalls(f *testing.F) { // P14.1, P14.2, P14.3
	f.Add([]byte{1, 0, 0, 0, 5, 1, 0, 0, 0, 1, 1, 0, 0, 4})
	f.Add([]byte{1, 1, 7, 12, 2, 2, 6, 13, 1, 1, 8, 8, 1, 1, 8, 7})
	f.Fuzz(func(t *testing.T, bytes []byte) {
		p := newPair()
		left := bytes[:min(len(bytes), 600)]
		choose := func(n int) int {
			if len(left) == 0 {
				return 0
			}
			c := int(left[0]) % n
			left = left[1:]
			return c
		}
		for len(left) > 0 {
			p.step(t, bytes, choose)
		}
		p.drain(t, bytes)
	})
}
