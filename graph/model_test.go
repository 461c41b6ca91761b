package graph

import (
	"fmt"
	"maps"
	"math/rand"
	"reflect"
	"regexp"
	"slices"
	"strings"
	"testing"

	"reveille/api"
)

// model: a graph by the document's words: the units that are there, in no order.
type model struct{ units []api.Unit }

var pattern = regexp.MustCompile(`^[A-Za-z0-9:_.\\-]+(@[A-Za-z0-9:_.\\-]*)?\.(service|socket|timer|path|mount|target)$`)

func isName(s string) bool { return len(s) <= 60 && pattern.MatchString(s) }

func (m *model) place(unit string) int {
	return slices.IndexFunc(m.units, func(u api.Unit) bool { return u.Name == unit })
}

func (m *model) add(u api.Unit) int {
	if !isName(u.Name) {
		return 150
	}
	at := m.place(u.Name)
	if at < 0 && len(m.units) == 40 {
		return 151
	}
	if at < 0 {
		m.units = append(m.units, u)
	} else {
		m.units[at] = u
	}
	return 0
}

func (m *model) remove(unit string) int {
	at := m.place(unit)
	if at < 0 {
		return 150
	}
	m.units = slices.Delete(m.units, at, at+1)
	return 0
}

// names: of the units that are there, rising.
func (m *model) names() []string {
	var l []string
	for _, u := range m.units {
		l = append(l, u.Name)
	}
	slices.Sort(l)
	return l
}

func isTriggering(u *api.Unit) bool { return u.Kind == 2 || u.Kind == 3 || u.Kind == 4 }

// isLast: whether u gives way to shutdown.target.
func isLast(u *api.Unit) bool { return !u.Plain && u.Kind != 6 }

// tellsTo: whether u, from which the edge is, tells of it.
func tellsTo(u *api.Unit, kind int, to string) bool {
	switch kind {
	case 1:
		return slices.Contains(u.Wants, to)
	case 2:
		return slices.Contains(u.Requires, to)
	case 3:
		return slices.Contains(u.BindsTo, to)
	case 4:
		return slices.Contains(u.PartOf, to)
	case 5:
		return slices.Contains(u.Conflicts, to) || isLast(u) && to == "shutdown.target"
	case 6:
		needed := slices.Contains(u.Wants, to) || slices.Contains(u.Requires, to)
		return slices.Contains(u.After, to) || u.Kind == 6 && !u.Plain && needed
	case 8:
		return isTriggering(u) && u.Target == to
	}
	return false
}

// tellsFrom: whether u, to which the edge is, tells of it.
func tellsFrom(u *api.Unit, kind int, from string) bool {
	return kind == 6 && (slices.Contains(u.Before, from) || isTriggering(u) && u.Target == from || isLast(u) && from == "shutdown.target")
}

func (m *model) has(kind int, from, to string) bool {
	if from == to {
		return false
	}
	for i := range m.units {
		u := &m.units[i]
		if u.Name == from && tellsTo(u, kind, to) || u.Name == to && tellsFrom(u, kind, from) {
			return isName(from) && isName(to)
		}
	}
	return false
}

// edges: from the unit to any of the names, and to it from any of them; names rise.
func (m *model) edges(unit string, names []string) (from, into []api.Edge) {
	for kind := range 10 {
		for _, other := range names {
			if m.has(kind, unit, other) {
				from = append(from, api.Edge{Kind: kind, From: unit, To: other})
			}
			if m.has(kind, other, unit) {
				into = append(into, api.Edge{Kind: kind, From: other, To: unit})
			}
		}
	}
	return from, into
}

// reached: by going over all edges until nothing more is found.
func (m *model) reached(roots []string) []string {
	found := map[string]bool{}
	for _, unit := range m.names() {
		if slices.Contains(roots, unit) {
			found[unit] = true
		}
	}
	for before := -1; before < len(found); {
		before = len(found)
		for _, from := range slices.Collect(maps.Keys(found)) {
			for _, to := range m.names() {
				for _, kind := range []int{1, 2, 3, 4, 5, 8} {
					if m.has(kind, from, to) {
						found[to] = true
					}
				}
			}
		}
	}
	return slices.Sorted(maps.Keys(found))
}

func (m *model) keep(roots []string) []string {
	reached := m.reached(roots)
	var gone []string
	for _, unit := range m.names() {
		if !slices.Contains(reached, unit) {
			m.remove(unit)
			gone = append(gone, unit)
		}
	}
	return gone
}

// pair: a graph and its model, told the same; names are all texts that they may be asked for, rising.
type pair struct {
	g     *Graph
	m     *model
	names []string
}

func newPair(names []string) *pair {
	return &pair{New(), &model{}, slices.Compact(slices.Sorted(slices.Values(names)))}
}

func (p *pair) add(t *testing.T, where any, u api.Unit) {
	t.Helper()
	if got, want := p.g.Add(u), p.m.add(u); int(got) != want {
		t.Fatalf("%v: Add(%+v) told %d, wanted %d", where, u, got, want)
	}
}

func (p *pair) remove(t *testing.T, where any, unit string) {
	t.Helper()
	if got, want := p.g.Remove(unit), p.m.remove(unit); int(got) != want {
		t.Fatalf("%v: Remove(%q) told %d, wanted %d", where, unit, got, want)
	}
}

func (p *pair) keep(t *testing.T, where any, roots []string) {
	t.Helper()
	if got, want := p.g.Keep(roots), p.m.keep(roots); !slices.Equal(got, want) {
		t.Fatalf("%v: Keep(%q) told %q, wanted %q", where, roots, got, want)
	}
}

// checkUnits: all that are there, and no others.
func (p *pair) checkUnits(t *testing.T, where any) {
	t.Helper()
	var got []string
	for u := range p.g.Units() {
		got = append(got, u.Name)
		if at := p.m.place(u.Name); at < 0 || !reflect.DeepEqual(u, p.m.units[at]) {
			t.Fatalf("%v: Units gave %+v", where, u)
		}
	}
	if want := p.m.names(); !slices.Equal(got, want) {
		t.Fatalf("%v: Units gave %q, wanted %q", where, got, want)
	}
	for _, unit := range p.names {
		u, ok := p.g.Unit(unit)
		if at := p.m.place(unit); ok != (at >= 0) || ok && !reflect.DeepEqual(u, p.m.units[at]) || !ok && !reflect.DeepEqual(u, api.Unit{}) {
			t.Fatalf("%v: Unit(%q) told %+v, %v", where, unit, u, ok)
		}
	}
}

// checkEdges: forth, back, and one by one.
func (p *pair) checkEdges(t *testing.T, where any) {
	t.Helper()
	for _, unit := range p.names {
		from, into := p.m.edges(unit, p.names)
		if got := slices.Collect(p.g.Edges(unit)); !slices.Equal(got, from) {
			t.Fatalf("%v: Edges(%q) gave %v, wanted %v; units %+v", where, unit, got, from, p.m.units)
		}
		if got := slices.Collect(p.g.Into(unit)); !slices.Equal(got, into) {
			t.Fatalf("%v: Into(%q) gave %v, wanted %v; units %+v", where, unit, got, into, p.m.units)
		}
		for kind := -1; kind < 10; kind++ {
			for _, to := range p.names {
				if got := p.g.Has(kind, unit, to); got != slices.Contains(from, api.Edge{Kind: kind, From: unit, To: to}) {
					t.Fatalf("%v: Has(%d, %q, %q) told %v", where, kind, unit, to, got)
				}
			}
		}
	}
}

func (p *pair) checkReached(t *testing.T, where any, roots []string) {
	t.Helper()
	if got, want := slices.Collect(p.g.Reached(roots)), p.m.reached(roots); !slices.Equal(got, want) {
		t.Fatalf("%v: Reached(%q) gave %q, wanted %q; units %+v", where, roots, got, want, p.m.units)
	}
}

// texts: few, so that units have to do with each other; the edges among names, and what is none.
func texts() []string {
	return []string{
		"a.service", "b.service", "b.socket", "c.target", "shutdown.target", "t.timer", "p.path", "m.mount", "a@.service", "a@b.service",
		"", "no", "a.Service", "@b.service", strings.Repeat("x", 53) + ".service", strings.Repeat("x", 52) + ".service",
	}
}

// list: of at most three of the texts.
func list(choose func(int) int, texts []string) []string {
	var l []string
	for range []int{0, 0, 0, 1, 1, 2, 3}[choose(7)] {
		l = append(l, texts[choose(len(texts))])
	}
	return l
}

// unit: one that the numbers choose; its Kind is most often that of its name.
func unit(choose func(int) int, texts []string) api.Unit {
	u := api.Unit{Name: texts[choose(len(texts))], Plain: choose(2) == 0, Load: choose(4)}
	u.Kind = 1 + slices.IndexFunc([]string{".service", ".socket", ".timer", ".path", ".mount", ".target"}, func(end string) bool { return strings.HasSuffix(u.Name, end) })
	if choose(4) == 0 {
		u.Kind = choose(9) - 1
	}
	for _, l := range []*[]string{&u.Wants, &u.Requires, &u.BindsTo, &u.PartOf, &u.Conflicts, &u.After, &u.Before} {
		*l = list(choose, texts)
	}
	u.Target = texts[choose(len(texts))]
	return u
}

// step: a call that the numbers choose.
func (p *pair) step(t *testing.T, where any, choose func(int) int) {
	t.Helper()
	switch choose(8) {
	case 0, 1:
		p.remove(t, where, p.names[choose(len(p.names))])
	case 2:
		p.keep(t, where, append(list(choose, p.names), list(choose, p.names)...))
	default:
		p.add(t, where, unit(choose, p.names))
	}
	p.checkReached(t, where, list(choose, p.names))
}

func TestCallsAgainstWords(t *testing.T) { // P15.1, P15.2, P15.3, P15.4
	for seed := range 150 {
		r := rand.New(rand.NewSource(int64(seed)))
		p := newPair(texts())
		where := fmt.Sprint("seed ", seed)
		for range 40 {
			p.step(t, where, r.Intn)
			p.checkUnits(t, where)
			p.checkEdges(t, where)
		}
	}
}

func TestManyUnitsAgainstWords(t *testing.T) { // P15.1, P15.2, P15.3, P15.4: at the limit
	names := texts()
	for i := range 45 {
		names = append(names, fmt.Sprintf("u%d.%s", i, []string{"service", "socket", "target", "mount"}[i%4]))
	}
	for seed := range 8 {
		r := rand.New(rand.NewSource(int64(seed)))
		p := newPair(names)
		where := fmt.Sprint("seed ", seed)
		for i := range 300 {
			if r.Intn(12) == 0 {
				p.step(t, where, r.Intn)
			} else {
				p.add(t, where, unit(r.Intn, p.names))
			}
			if i%25 == 0 {
				p.checkUnits(t, where)
				p.checkEdges(t, where)
				p.checkReached(t, where, list(r.Intn, p.names))
			}
		}
		p.checkUnits(t, where)
		p.checkEdges(t, where)
	}
}

// calls: that are told in all rows; `-` removes, `=` keeps what the names reach.
func (p *pair) do(t *testing.T, where any, call string) {
	t.Helper()
	known := map[string]api.Unit{
		"a":  {Name: "a.service", Kind: 1, After: []string{"b.socket"}, Wants: []string{"b.socket", "b.socket"}},
		"a2": {Name: "a.service", Kind: 1, Plain: true, Before: []string{"b.socket"}, Conflicts: []string{"c.target", "no"}},
		"b":  {Name: "b.socket", Kind: 2, Plain: true, Target: "a.service"},
		"b2": {Name: "b.socket", Kind: 2, Before: []string{"a.service"}, PartOf: []string{"a.service", "b.socket"}},
		"c":  {Name: "c.target", Kind: 6, Wants: []string{"a.service"}, Requires: []string{"a.service", "b.socket"}},
		"c2": {Name: "c.target", Kind: 6, Plain: true, BindsTo: []string{"b.socket"}, After: []string{"a.service"}},
		"s":  {Name: "shutdown.target", Kind: 6, Before: []string{"a.service"}},
		"no": {Name: "no", Kind: 1, Wants: []string{"a.service"}},
	}
	switch call[0] {
	case '-':
		p.remove(t, where, call[1:])
	case '=':
		p.keep(t, where, strings.Split(call[1:], ","))
	default:
		p.add(t, where, known[call])
	}
}

// each: all rows of just so many of the calls.
func each(calls []string, length int, do func([]string)) {
	row := make([]string, length)
	var fill func(int)
	fill = func(i int) {
		if i == length {
			do(row)
			return
		}
		for _, c := range calls {
			row[i] = c
			fill(i + 1)
		}
	}
	fill(0)
}

func TestAllShortRowsOfCalls(t *testing.T) { // P15.1, P15.2, P15.3, P15.4
	names := []string{"a.service", "b.socket", "c.target", "shutdown.target", "no", ""}
	for _, part := range []struct {
		calls string
		most  int
	}{
		{"a a2 b b2 c c2 s no -a.service -b.socket -c.target -no =a.service =b.socket,c.target =no", 3},
		{"a a2 b c -a.service =b.socket", 5},
		{"b b2 c c2 s -b.socket =c.target", 4},
	} {
		for length := range part.most + 1 {
			each(strings.Fields(part.calls), length, func(row []string) {
				p := newPair(names)
				for _, c := range row {
					p.do(t, row, c)
				}
				p.checkUnits(t, row)
				p.checkEdges(t, row)
				for _, roots := range [][]string{nil, {"a.service"}, {"b.socket", "b.socket"}, {"c.target", "no"}, {"shutdown.target", "a.service"}} {
					p.checkReached(t, row, roots)
				}
			})
		}
	}
}

func FuzzCalls(f *testing.F) { // P15.1, P15.2, P15.3, P15.4
	f.Add([]byte{3, 0, 1, 1, 1, 3, 1, 4, 2, 3, 0, 1, 5, 6})
	f.Add([]byte("3,2,5,1,0,2,1,1,0,4,7,7,2,1,6,0"))
	f.Fuzz(func(t *testing.T, bytes []byte) {
		p := newPair(texts())
		left := bytes[:min(len(bytes), 500)]
		choose := func(n int) int {
			if len(left) == 0 {
				return 0
			}
			c := int(left[0]) % n
			left = left[1:]
			return c
		}
		for len(left) > 0 {
			p.step(t, bytes, choose)
		}
		p.checkUnits(t, bytes)
		p.checkEdges(t, bytes)
	})
}
