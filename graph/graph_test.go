package graph

import (
	"fmt"
	"iter"
	"math"
	"reflect"
	"slices"
	"strings"
	"sync"
	"testing"

	"reveille/api"
	"reveille/setting"
)

// of: a graph with these units.
func of(t *testing.T, units ...api.Unit) *Graph {
	t.Helper()
	g := New()
	for _, u := range units {
		if err := g.Add(u); err != 0 {
			t.Fatalf("Add(%+v): %d", u, err)
		}
	}
	return g
}

// full: a graph with the units u10.service to u49.service, all Plain.
func full(t *testing.T) *Graph {
	t.Helper()
	g := New()
	for i := range 40 {
		if err := g.Add(api.Unit{Name: fmt.Sprintf("u%d.service", i+10), Kind: 1, Plain: true}); err != 0 {
			t.Fatalf("unit %d: %d", i, err)
		}
	}
	return g
}

// names: of what the iterator gives, as text.
func names(units iter.Seq[api.Unit]) string {
	var l []string
	for u := range units {
		l = append(l, u.Name)
	}
	return strings.Join(l, " ")
}

func joined(l iter.Seq[string]) string { return strings.Join(slices.Collect(l), " ") }

// row: edges as `1:a.service>b.service`, one blank between.
func row(l iter.Seq[api.Edge]) string {
	var out []string
	for e := range l {
		out = append(out, fmt.Sprintf("%d:%s>%s", e.Kind, e.From, e.To))
	}
	return strings.Join(out, " ")
}

// say: units and edges of a graph, as text; of edges those that have one of the others at an end, too.
func say(g *Graph, others ...string) string {
	out := fmt.Sprintf("%+v", slices.Collect(g.Units()))
	for u := range g.Units() {
		others = append(others, u.Name)
	}
	for _, unit := range others {
		out += "\n" + unit + ": " + row(g.Edges(unit)) + ", " + row(g.Into(unit))
	}
	return out
}

// lists: the fields of a unit that are lists, by name.
func lists(u *api.Unit) map[string]*[]string {
	all := map[string]*[]string{}
	v := reflect.ValueOf(u).Elem()
	for i := range v.NumField() {
		if l, ok := v.Field(i).Addr().Interface().(*[]string); ok {
			all[v.Type().Field(i).Name] = l
		}
	}
	return all
}

// whole: a unit none of whose fields is zero; each list has spare room.
func whole(name string) api.Unit {
	u := api.Unit{
		Name: name, Kind: 3, Load: 1, Plain: true, Type: 4, Restart: 2, KillMode: 3, RestartSec: 5, StartSec: 6, StopSec: 7, Watchdog: 8, Burst: 9,
		Interval: math.MaxInt64, Remain: true, Listen: "l", Target: "t.service", Boot: math.MinInt64, Active: 11, What: "w", Where: "/w",
	}
	for field, l := range lists(&u) {
		*l = append(make([]string, 0, 5), strings.ToLower(field)+".service", "no", strings.ToLower(field)+".service")
	}
	return u
}

// spoil: all that a list holds, its spare room too, becomes another text.
func spoil(l []string) {
	l = l[:cap(l)]
	for i := range l {
		l[i] = "spoilt.service"
	}
}

func TestNewIsEmpty(t *testing.T) { // P15.1, P15.2, P15.3
	checkEmpty(t, New())
}

func checkEmpty(t *testing.T, g *Graph) {
	t.Helper()
	for _, unit := range []string{"a.service", "shutdown.target", "no", ""} {
		if u, ok := g.Unit(unit); ok || !reflect.DeepEqual(u, api.Unit{}) {
			t.Errorf("Unit(%q): %+v, %v", unit, u, ok)
		}
		if row(g.Edges(unit)) != "" || row(g.Into(unit)) != "" || joined(g.Reached([]string{unit})) != "" || len(g.Keep([]string{unit})) != 0 {
			t.Errorf("%q has something in an empty graph", unit)
		}
		if err := g.Remove(unit); err != 150 {
			t.Errorf("Remove(%q): %d", unit, err)
		}
		for kind := -1; kind < 10; kind++ {
			if g.Has(kind, unit, "shutdown.target") || g.Has(kind, "shutdown.target", unit) {
				t.Errorf("%q has an edge of kind %d", unit, kind)
			}
		}
	}
	if names(g.Units()) != "" {
		t.Error("an empty graph has units")
	}
}

func TestExample(t *testing.T) { // P15.2: the chapter's
	g := of(t, api.Unit{Name: "a.service", Kind: 1, Plain: true, Before: []string{"b.service"}})
	if !g.Has(api.RAfter, "b.service", "a.service") || row(g.Edges("b.service")) != "6:b.service>a.service" || row(g.Into("a.service")) != "6:b.service>a.service" || row(g.Edges("a.service")) != "" {
		t.Error(say(g, "b.service"))
	}
}

func TestAddTakesNames(t *testing.T) { // P15.1
	x := strings.Repeat("x", 52)
	for _, unit := range []string{"a.service", "a.socket", "a.timer", "a.path", "a.mount", "-.mount", "a.target", "shutdown.target", "a@.service", "a@b.service", `a:-_.\@c.d.service`, x + ".service"} {
		g := New()
		if err := g.Add(api.Unit{Name: unit}); err != 0 || names(g.Units()) != unit {
			t.Errorf("%q: %d, %s", unit, err, names(g.Units()))
		}
		if u, ok := g.Unit(unit); !ok || !reflect.DeepEqual(u, api.Unit{Name: unit}) {
			t.Errorf("%q: %+v, %v", unit, u, ok)
		}
	}
	for _, unit := range []string{"", "no", "a", ".service", "service", "a.Service", "a.services", "a.service ", " a.service", "a b.service", "@a.service", "a@b@c.service", "a/b.service", "a.service\n", "\x00.service", "\xc3\xa4.service", "%n.service", x + "x.service", strings.Repeat("x", 1<<20)} {
		g := New()
		if err := g.Add(api.Unit{Name: unit, Kind: 1, Wants: []string{"b.service"}}); err != 150 {
			t.Errorf("%.80q: %d", unit, err)
		}
		if row(g.Into("b.service")) != "" || row(g.Into("shutdown.target")) != "" {
			t.Errorf("%.80q left edges", unit)
		}
		checkEmpty(t, g)
	}
}

func TestAddGoesByNameAlone(t *testing.T) { // P15.1: whatever else a unit tells, it is taken as it is
	for _, u := range []api.Unit{
		{Name: "a.service", Kind: 6, Load: 3},
		{Name: "a.target", Kind: -1, Load: 99},
		{Name: "a.socket", Kind: math.MaxInt, Target: "no"},
		{Name: "a.mount", Wants: []string{"", "no", "\xff", strings.Repeat("x", 5000)}},
		{Name: "a.timer", Kind: 3, Wants: slices.Repeat([]string{"b.service"}, 5000)},
		whole("a.path"),
	} {
		g := of(t, u)
		if got, ok := g.Unit(u.Name); !ok || !reflect.DeepEqual(got, u) || !setting.Same(got, u) {
			t.Errorf("%+v became %+v, %v", u, got, ok)
		}
		for got := range g.Units() {
			if !reflect.DeepEqual(got, u) {
				t.Errorf("%+v became %+v", u, got)
			}
		}
	}
}

func TestAddReplaces(t *testing.T) { // P15.1, P15.2: what the one before told is gone, what others tell stays
	g := of(t,
		api.Unit{Name: "a.service", Kind: 1, Wants: []string{"b.service", "c.service"}, After: []string{"b.service"}, Before: []string{"d.service"}},
		api.Unit{Name: "b.service", Kind: 1, Plain: true, Before: []string{"a.service"}, PartOf: []string{"a.service"}},
		api.Unit{Name: "a.service", Kind: 1, Plain: true, Wants: []string{"c.service"}, Burst: 7},
	)
	if u, ok := g.Unit("a.service"); !ok || !reflect.DeepEqual(u, api.Unit{Name: "a.service", Kind: 1, Plain: true, Wants: []string{"c.service"}, Burst: 7}) {
		t.Errorf("%+v, %v", u, ok)
	}
	if got := names(g.Units()); got != "a.service b.service" {
		t.Error(got)
	}
	if got := row(g.Edges("a.service")); got != "1:a.service>c.service 6:a.service>b.service" {
		t.Error(got)
	}
	if got := row(g.Into("a.service")); got != "4:b.service>a.service" {
		t.Error(got)
	}
	if got := row(g.Edges("d.service")) + row(g.Into("shutdown.target")) + row(g.Edges("shutdown.target")); got != "" {
		t.Error(got)
	}
	before := say(g, "c.service", "d.service")
	for range 3 { // by itself
		if err := g.Add(api.Unit{Name: "a.service", Kind: 1, Plain: true, Wants: []string{"c.service"}, Burst: 7}); err != 0 || say(g, "c.service", "d.service") != before {
			t.Errorf("%d: %s became %s", err, before, say(g, "c.service", "d.service"))
		}
	}
}

func TestGraphIsFull(t *testing.T) { // P15.1: MaxUnits
	g := full(t)
	before := say(g, "v.service", "shutdown.target")
	for i, row := range []struct {
		unit string
		want api.Errno
	}{{"v.service", 151}, {"shutdown.target", 151}, {"u9.service", 151}, {"u10.socket", 151}, {"no", 150}, {"", 150}} {
		if err := g.Add(api.Unit{Name: row.unit, Kind: 1, Wants: []string{"u10.service"}}); err != row.want || say(g, "v.service", "shutdown.target") != before {
			t.Errorf("%d, %q: %d", i, row.unit, err)
		}
	}
	for i := range 40 {
		if err := g.Add(api.Unit{Name: fmt.Sprintf("u%d.service", i+10), Kind: 1, Plain: true, Burst: i}); err != 0 {
			t.Errorf("%d: %d", i, err)
		}
	}
	if err := g.Add(api.Unit{Name: "v.service"}); err != 151 {
		t.Error(err)
	}
	if err := g.Remove("u33.service"); err != 0 {
		t.Error(err)
	}
	if err := g.Add(api.Unit{Name: "v.service"}); err != 0 {
		t.Error(err)
	}
	if err := g.Add(api.Unit{Name: "u33.service"}); err != 151 {
		t.Error(err)
	}
	if gone := g.Keep([]string{"v.service"}); len(gone) != 39 {
		t.Errorf("%d are gone", len(gone))
	}
	if err := g.Add(api.Unit{Name: "u33.service"}); err != 0 {
		t.Error(err)
	}
}

func TestRemove(t *testing.T) { // P15.1, P15.2
	g := of(t,
		api.Unit{Name: "a.service", Kind: 1, Requires: []string{"b.service"}, After: []string{"b.service"}, Before: []string{"c.service"}},
		api.Unit{Name: "b.service", Kind: 1, Plain: true, Before: []string{"a.service"}},
	)
	before := say(g, "c.service", "shutdown.target")
	for _, unit := range []string{"c.service", "shutdown.target", "no", "", "a.Service", "a.service ", "a", strings.Repeat("x", 1<<20)} {
		if err := g.Remove(unit); err != 150 || say(g, "c.service", "shutdown.target") != before {
			t.Errorf("%.80q: %d", unit, err)
		}
	}
	if err := g.Remove("a.service"); err != 0 {
		t.Error(err)
	}
	if u, ok := g.Unit("a.service"); ok || !reflect.DeepEqual(u, api.Unit{}) || names(g.Units()) != "b.service" {
		t.Errorf("%+v, %v", u, ok)
	}
	// b still tells of this one
	if got := row(g.Edges("a.service")) + " " + row(g.Into("b.service")); got != "6:a.service>b.service 6:a.service>b.service" {
		t.Error(got)
	}
	if got := row(g.Edges("c.service")) + row(g.Into("a.service")) + row(g.Edges("shutdown.target")) + row(g.Into("shutdown.target")); got != "" {
		t.Error(got)
	}
	if err := g.Remove("a.service"); err != 150 {
		t.Error(err)
	}
	if err := g.Remove("b.service"); err != 0 || row(g.Edges("a.service")) != "" {
		t.Errorf("%d, %s", err, row(g.Edges("a.service")))
	}
	checkEmpty(t, g)
}

func TestUnitsAreByName(t *testing.T) { // P15.1: rising byte by byte
	rising := []string{"-.mount", "A.service", "Z.service", `\.service`, "_.service", "a-.service", "a.mount", "a.path", "a.service", "a.service.service", "a.socket", "a1.service", "a10.service", "a2.service", "a:.service", "a@.service", "a@b.service", "aa.service", "b.service"}
	g := New()
	for i := range rising { // in another order
		if err := g.Add(api.Unit{Name: rising[i*7%len(rising)]}); err != 0 {
			t.Fatal(err)
		}
	}
	if got := names(g.Units()); got != strings.Join(rising, " ") {
		t.Error(got)
	}
	if got := joined(g.Reached(rising)); got != strings.Join(rising, " ") {
		t.Error(got)
	}
	if got := g.Keep(nil); !slices.Equal(got, rising) {
		t.Errorf("%q", got)
	}
}

func TestEdgesOfOneUnit(t *testing.T) { // P15.2
	l := []string{"c.service", "b.target", "c.service"}
	for _, c := range []struct {
		unit api.Unit
		want string
	}{
		{api.Unit{Wants: l}, "1:a.service>b.target 1:a.service>c.service"},
		{api.Unit{Requires: l}, "2:a.service>b.target 2:a.service>c.service"},
		{api.Unit{BindsTo: l}, "3:a.service>b.target 3:a.service>c.service"},
		{api.Unit{PartOf: l}, "4:a.service>b.target 4:a.service>c.service"},
		{api.Unit{Conflicts: l}, "5:a.service>b.target 5:a.service>c.service"},
		{api.Unit{After: l}, "6:a.service>b.target 6:a.service>c.service"},
		{api.Unit{Before: l}, "6:b.target>a.service 6:c.service>a.service"},
		{api.Unit{After: l, Before: l}, "6:a.service>b.target 6:a.service>c.service 6:b.target>a.service 6:c.service>a.service"},
		{api.Unit{Pre: l, Start: l, Stop: l, Calendars: l, Exists: l, Changed: l, Listen: l[0], What: l[0], Where: l[0]}, ""},
		{api.Unit{Wants: l[:1], Requires: l[:1], BindsTo: l[:1], PartOf: l[:1], Conflicts: l[:1], After: l[:1]}, "1:a.service>c.service 2:a.service>c.service 3:a.service>c.service 4:a.service>c.service 5:a.service>c.service 6:a.service>c.service"},
	} {
		c.unit.Name, c.unit.Plain = "a.service", true
		for kind := range 8 { // lists count alike for all kinds
			c.unit.Kind = kind
			checkAll(t, of(t, c.unit), []string{"a.service", "b.target", "c.service"}, c.want)
		}
	}
}

// checkAll: that the edges from these names are just these, by name, and that Into and Has say the same.
func checkAll(t *testing.T, g *Graph, names []string, want string) {
	t.Helper()
	var from, into []api.Edge
	for _, unit := range names {
		from = slices.AppendSeq(from, g.Edges(unit))
		into = slices.AppendSeq(into, g.Into(unit))
	}
	if got := row(slices.Values(from)); got != want {
		t.Errorf("edges %q, wanted %q, of %+v", got, want, slices.Collect(g.Units()))
	}
	if len(from) != len(into) {
		t.Errorf("from %v, into %v", from, into)
	}
	for _, a := range names {
		for _, b := range names {
			for kind := -1; kind < 10; kind++ {
				e := api.Edge{Kind: kind, From: a, To: b}
				if has := slices.Contains(from, e); slices.Contains(into, e) != has || g.Has(kind, a, b) != has {
					t.Errorf("%v: from %v, into %v, Has %v", e, has, slices.Contains(into, e), g.Has(kind, a, b))
				}
			}
		}
	}
}

func TestTriggers(t *testing.T) { // P15.2
	fires := "6:b.service>a.path 8:a.path>b.service"
	for _, c := range []struct {
		kind   int
		target string
		want   string
	}{
		{api.Socket, "b.service", fires}, {api.Timer, "b.service", fires}, {api.Path, "b.service", fires},
		{api.Service, "b.service", ""}, {api.Mount, "b.service", ""}, {api.Target, "b.service", ""}, {0, "b.service", ""}, {7, "b.service", ""}, {-1, "b.service", ""},
		{api.Socket, "", ""}, {api.Timer, "no", ""}, {api.Path, "b.Service", ""}, {api.Timer, "a.path", ""},
		{api.Path, strings.Repeat("x", 53) + ".service", ""},
	} {
		g := of(t, api.Unit{Name: "a.path", Kind: c.kind, Plain: true, Target: c.target})
		var got []string
		for _, unit := range []string{"b.service", "a.path", c.target} {
			if s := row(g.Edges(unit)); s != "" && !slices.Contains(got, s) {
				got = append(got, s)
			}
		}
		if s := strings.Join(got, " "); s != c.want {
			t.Errorf("kind %d, %q: %s", c.kind, c.target, s)
		}
	}
	g := of(t, api.Unit{Name: "a.socket", Kind: 2, Target: "b.service", Before: []string{"b.service"}, Wants: []string{"b.service"}})
	checkAll(t, g, []string{"a.socket", "b.service", "shutdown.target"}, "1:a.socket>b.service 5:a.socket>shutdown.target 8:a.socket>b.service 6:b.service>a.socket 6:shutdown.target>a.socket")
}

func TestDefaultEdges(t *testing.T) { // P15.2
	last := "5:a.service>shutdown.target 6:shutdown.target>a.service"
	for kind, want := range map[int]string{
		api.Service: last, api.Socket: last, api.Timer: last, api.Path: last, api.Mount: last, api.Target: "", 0: last, 7: last, -6: last,
	} {
		checkAll(t, of(t, api.Unit{Name: "a.service", Kind: kind}), []string{"a.service", "shutdown.target"}, want)
		checkAll(t, of(t, api.Unit{Name: "a.service", Kind: kind, Plain: true}), []string{"a.service", "shutdown.target"}, "")
	}
	u := api.Unit{
		Name: "a.target", Kind: 6, Wants: []string{"b.service", "no", "a.target"}, Requires: []string{"c.service", "b.service"},
		BindsTo: []string{"d.service"}, PartOf: []string{"d.service"}, Conflicts: []string{"d.service"},
	}
	rest := "1:a.target>b.service 2:a.target>b.service 2:a.target>c.service 3:a.target>d.service 4:a.target>d.service 5:a.target>d.service"
	all := []string{"a.target", "b.service", "c.service", "d.service", "shutdown.target", "no", ""}
	checkAll(t, of(t, u), all, rest+" 6:a.target>b.service 6:a.target>c.service")
	u.Plain = true
	checkAll(t, of(t, u), all, rest)
	u.Plain, u.Kind = false, 1
	checkAll(t, of(t, u), all, rest+" 5:a.target>shutdown.target 6:shutdown.target>a.target")
}

func TestShutdownItself(t *testing.T) { // P15.2: no edge to itself, whatever its Kind is
	for kind := range 8 {
		for _, plain := range []bool{false, true} {
			g := of(t, api.Unit{Name: "shutdown.target", Kind: kind, Plain: plain})
			checkAll(t, g, []string{"shutdown.target"}, "")
		}
	}
	g := of(t, api.Unit{Name: "shutdown.target", Kind: 6, Requires: []string{"a.service"}}, api.Unit{Name: "a.service", Kind: 1}, api.Unit{Name: "b.target", Kind: 6})
	checkAll(t, g, []string{"a.service", "b.target", "shutdown.target"}, "5:a.service>shutdown.target 2:shutdown.target>a.service 6:shutdown.target>a.service")
}

func TestWhatIsNoEdge(t *testing.T) { // P15.2: names that are none, and the unit itself
	wrong := []string{"", "no", "a.service", ".service", "b.Service", "a@b@c.service", "b.service ", "b/c.mount", strings.Repeat("x", 53) + ".service", "\xff.service"}
	for field := range lists(&api.Unit{}) {
		u := api.Unit{Name: "a.service", Kind: 1, Plain: true}
		*lists(&u)[field] = wrong
		g := of(t, u)
		checkAll(t, g, wrong, "")
		*lists(&u)[field] = append(slices.Clone(wrong), "b.service")
		g = of(t, u)
		want := map[string]string{
			"Wants": "1:a.service>b.service", "Requires": "2:a.service>b.service", "BindsTo": "3:a.service>b.service", "PartOf": "4:a.service>b.service",
			"Conflicts": "5:a.service>b.service", "After": "6:a.service>b.service", "Before": "6:b.service>a.service",
		}[field]
		checkAll(t, g, append(slices.Clone(wrong), "b.service"), want)
	}
	for _, unit := range wrong {
		if g := of(t, api.Unit{Name: "a.service", Kind: 2, Plain: true, Target: unit}); row(g.Edges("a.service"))+row(g.Into("a.service"))+row(g.Edges(unit))+row(g.Into(unit)) != "" {
			t.Errorf("Target %.80q: %s", unit, say(g, unit))
		}
	}
	x := strings.Repeat("x", 52) + ".service"
	if g := of(t, api.Unit{Name: "a.service", Kind: 1, Plain: true, After: []string{x}}); !g.Has(6, "a.service", x) {
		t.Error("the longest name is of no edge")
	}
}

func TestNoEdgeIsThereTwice(t *testing.T) { // P15.2: told of by one unit, or by both
	b := []string{"b.target", "b.target"}
	g := of(t,
		api.Unit{Name: "a.target", Kind: 6, Wants: b, Requires: b, After: b},
		api.Unit{Name: "b.target", Kind: 6, Before: []string{"a.target", "a.target"}},
	)
	all := []string{"a.target", "b.target"}
	want := "1:a.target>b.target 2:a.target>b.target 6:a.target>b.target"
	checkAll(t, g, all, want)
	g.Add(api.Unit{Name: "b.target", Kind: 6})
	checkAll(t, g, all, want)
	g.Add(api.Unit{Name: "b.target", Kind: 6, Before: []string{"a.target"}})
	g.Add(api.Unit{Name: "a.target", Kind: 6})
	checkAll(t, g, all, "6:a.target>b.target")
	g.Remove("b.target")
	checkAll(t, g, all, "")
}

func TestEdgesAreInOrder(t *testing.T) { // P15.2: by Kind, then To; by Kind, then From
	l := []string{"b@.service", "b.service", "b10.service", "B.service", "b2.service", "b-.service", "b.mount"}
	g := of(t, api.Unit{Name: "a.service", Kind: 1, Plain: true, Wants: l, After: l, Conflicts: l[:2]})
	if got := row(g.Edges("a.service")); got != "1:a.service>B.service 1:a.service>b-.service 1:a.service>b.mount 1:a.service>b.service 1:a.service>b10.service 1:a.service>b2.service 1:a.service>b@.service "+
		"5:a.service>b.service 5:a.service>b@.service "+
		"6:a.service>B.service 6:a.service>b-.service 6:a.service>b.mount 6:a.service>b.service 6:a.service>b10.service 6:a.service>b2.service 6:a.service>b@.service" {
		t.Error(got)
	}
	g = New()
	for _, unit := range l {
		g.Add(api.Unit{Name: unit, Kind: 1, Plain: true, PartOf: []string{"a.service"}, After: []string{"a.service"}})
	}
	if got := row(g.Into("a.service")); got != "4:B.service>a.service 4:b-.service>a.service 4:b.mount>a.service 4:b.service>a.service 4:b10.service>a.service 4:b2.service>a.service 4:b@.service>a.service "+
		"6:B.service>a.service 6:b-.service>a.service 6:b.mount>a.service 6:b.service>a.service 6:b10.service>a.service 6:b2.service>a.service 6:b@.service>a.service" {
		t.Error(got)
	}
}

func TestHasTakesAll(t *testing.T) { // P15.2: RBefore is of no edge, nor is what is no kind
	g := of(t, api.Unit{Name: "a.service", Kind: 1, Before: []string{"b.service"}, Wants: []string{"b.service"}})
	for _, c := range []struct {
		kind     int
		from, to string
		want     bool
	}{
		{1, "a.service", "b.service", true}, {1, "b.service", "a.service", false}, {6, "b.service", "a.service", true}, {6, "a.service", "b.service", false},
		{5, "a.service", "shutdown.target", true}, {6, "shutdown.target", "a.service", true}, {5, "shutdown.target", "a.service", false},
		{api.RBefore, "a.service", "b.service", false}, {api.RBefore, "b.service", "a.service", false}, {0, "a.service", "b.service", false}, {-1, "a.service", "b.service", false},
		{math.MaxInt, "a.service", "b.service", false}, {math.MinInt, "a.service", "b.service", false}, {1 << 32, "a.service", "b.service", false}, {1<<32 + 1, "a.service", "b.service", false},
		{1, "", "", false}, {1, "a.service", "", false}, {1, "", "b.service", false}, {1, "a.service", "a.service", false}, {1, "a.service", "b.servic", false}, {1, "no", "no", false},
		{5, "", "shutdown.target", false}, {6, "shutdown.target", "", false}, {5, "b.service", "shutdown.target", false},
	} {
		if got := g.Has(c.kind, c.from, c.to); got != c.want {
			t.Errorf("Has(%d, %q, %q): %v", c.kind, c.from, c.to, got)
		}
	}
	for _, unit := range []string{"", "no", "\xff", "a.servic", strings.Repeat("x", 1<<20)} {
		if row(g.Edges(unit)) != "" || row(g.Into(unit)) != "" {
			t.Errorf("%.80q has edges", unit)
		}
	}
}

func TestOnlyUnitsThatAreThereTell(t *testing.T) { // P15.2: names of others are at the ends of their edges alone
	g := of(t, api.Unit{Name: "a.service", Kind: 1, Plain: true, Wants: []string{"b.socket"}})
	checkAll(t, g, []string{"a.service", "b.service", "b.socket", "shutdown.target", ""}, "1:a.service>b.socket")
	if got := row(g.Into("shutdown.target")) + row(g.Edges("shutdown.target")); got != "" {
		t.Error(got)
	}
}

// chain: units a to h, each of which has one relation to the next one.
func chain() []api.Unit {
	return []api.Unit{
		{Name: "a.service", Kind: 1, Plain: true, Wants: []string{"b.service"}},
		{Name: "b.service", Kind: 1, Plain: true, Requires: []string{"c.service"}},
		{Name: "c.service", Kind: 1, Plain: true, BindsTo: []string{"d.service"}},
		{Name: "d.service", Kind: 1, Plain: true, PartOf: []string{"e.service"}},
		{Name: "e.service", Kind: 1, Plain: true, Conflicts: []string{"f.timer"}},
		{Name: "f.timer", Kind: 3, Plain: true, Target: "g.service"},
		{Name: "g.service", Kind: 1, Plain: true, After: []string{"h.service"}},
		{Name: "h.service", Kind: 1, Plain: true, Before: []string{"i.service"}},
		{Name: "i.service", Kind: 1, Plain: true},
	}
}

func TestReached(t *testing.T) { // P15.3
	g := of(t, chain()...)
	for _, c := range []struct{ roots, want string }{
		{"", ""},
		{"a.service", "a.service b.service c.service d.service e.service f.timer g.service"},
		{"b.service", "b.service c.service d.service e.service f.timer g.service"},
		{"c.service", "c.service d.service e.service f.timer g.service"},
		{"d.service", "d.service e.service f.timer g.service"},
		{"e.service", "e.service f.timer g.service"},
		{"f.timer", "f.timer g.service"},
		{"g.service", "g.service"},
		{"h.service", "h.service"},
		{"i.service", "i.service"},
		{"i.service g.service", "g.service i.service"},
		{"h.service e.service h.service e.service", "e.service f.timer g.service h.service"},
		{"no f.timer nobody.service", "f.timer g.service"},
		{"no nobody.service shutdown.target", ""},
	} {
		roots := strings.Fields(c.roots)
		if got := joined(g.Reached(roots)); got != c.want {
			t.Errorf("Reached(%s): %s", c.roots, got)
		}
		h := of(t, chain()...)
		gone := h.Keep(roots)
		if got := names(h.Units()); got != c.want {
			t.Errorf("Keep(%s) left %s", c.roots, got)
		}
		for u := range g.Units() {
			if _, kept := h.Unit(u.Name); kept == slices.Contains(gone, u.Name) {
				t.Errorf("Keep(%s) told %q; %s is kept: %v", c.roots, gone, u.Name, kept)
			}
		}
		if !slices.IsSorted(gone) || len(gone)+len(strings.Fields(c.want)) != 9 {
			t.Errorf("Keep(%s) told %q", c.roots, gone)
		}
	}
	if got := joined(g.Reached([]string{"", "\xff", strings.Repeat("x", 1<<20)})); got != "" {
		t.Error(got)
	}
	if got := joined(g.Reached(slices.Repeat([]string{"f.timer", "no"}, 100000))); got != "f.timer g.service" {
		t.Error(got)
	}
}

func TestReachedGoesOverUnitsThatAreThere(t *testing.T) { // P15.3: not by one that isn't, nor back, nor by RAfter
	g := of(t,
		api.Unit{Name: "a.service", Kind: 1, Plain: true, Wants: []string{"gone.service"}, After: []string{"c.service"}},
		api.Unit{Name: "b.service", Kind: 1, Plain: true, Wants: []string{"a.service"}, Before: []string{"gone.service"}},
		api.Unit{Name: "c.service", Kind: 1, Plain: true, Before: []string{"a.service"}},
		api.Unit{Name: "d.target", Kind: 6, After: []string{"a.service"}},
		api.Unit{Name: "e.socket", Kind: 2, Plain: true, Target: "a.service"},
	)
	if got := joined(g.Reached([]string{"a.service", "gone.service"})); got != "a.service" {
		t.Error(got)
	}
	g.Add(api.Unit{Name: "gone.service", Kind: 1, Plain: true, BindsTo: []string{"d.target"}})
	if got := joined(g.Reached([]string{"a.service"})); got != "a.service d.target gone.service" {
		t.Error(got)
	}
	g.Remove("gone.service")
	if got := joined(g.Reached([]string{"a.service"})); got != "a.service" {
		t.Error(got)
	}
}

func TestReachedByDefaultEdges(t *testing.T) { // P15.3: an RConflicts leads to shutdown.target
	g := of(t,
		api.Unit{Name: "a.service", Kind: 1},
		api.Unit{Name: "b.target", Kind: 6},
		api.Unit{Name: "c.service", Kind: 1, Plain: true},
		api.Unit{Name: "shutdown.target", Kind: 6, Wants: []string{"d.service"}},
		api.Unit{Name: "d.service", Kind: 1},
	)
	for root, want := range map[string]string{
		"a.service": "a.service d.service shutdown.target", "b.target": "b.target", "c.service": "c.service",
		"shutdown.target": "d.service shutdown.target", "d.service": "d.service shutdown.target",
	} {
		if got := joined(g.Reached([]string{root})); got != want {
			t.Errorf("%s: %s", root, got)
		}
	}
}

func TestReachedInACircle(t *testing.T) { // P15.3
	g := full(t)
	for i := range 40 {
		g.Add(api.Unit{Name: fmt.Sprintf("u%d.service", i+10), Kind: 1, Plain: true, Wants: []string{fmt.Sprintf("u%d.service", (i+1)%40+10), fmt.Sprintf("u%d.service", (i+17)%40+10)}})
	}
	for i := range 40 {
		if got := slices.Collect(g.Reached([]string{fmt.Sprintf("u%d.service", i+10)})); len(got) != 40 || !slices.IsSorted(got) {
			t.Errorf("%d: %q", i, got)
		}
	}
	if gone := g.Keep([]string{"u20.service"}); len(gone) != 0 || len(slices.Collect(g.Units())) != 40 {
		t.Errorf("%q", gone)
	}
}

func TestKeepTakesEdges(t *testing.T) { // P15.2, P15.3, P15.4
	g := of(t,
		api.Unit{Name: "a.service", Kind: 1, Plain: true, Wants: []string{"b.service"}, After: []string{"c.service"}},
		api.Unit{Name: "b.service", Kind: 1, Plain: true},
		api.Unit{Name: "c.service", Kind: 1, Before: []string{"a.service", "b.service"}, Requires: []string{"a.service"}},
	)
	if gone := g.Keep([]string{"a.service"}); !slices.Equal(gone, []string{"c.service"}) {
		t.Errorf("%q", gone)
	}
	checkAll(t, g, []string{"a.service", "b.service", "c.service", "shutdown.target"}, "1:a.service>b.service 6:a.service>c.service")
	if gone := g.Keep([]string{"a.service"}); len(gone) != 0 {
		t.Errorf("%q", gone)
	}
	if gone := g.Keep(nil); !slices.Equal(gone, []string{"a.service", "b.service"}) {
		t.Errorf("%q", gone)
	}
	checkAll(t, g, []string{"a.service", "b.service", "c.service", "shutdown.target"}, "")
	checkEmpty(t, g)
}

func TestWhatIsHandedInIsLeftAlone(t *testing.T) { // P15.1, P15.3: its spare room too, and it isn't kept
	u := whole("a.service")
	spare := map[string][]string{}
	for field, l := range lists(&u) {
		all := (*l)[:cap(*l)]
		all[3], all[4] = "spare.service", "room.service"
		spare[field] = slices.Clone(all)
	}
	g := of(t, u)
	roots := []string{"z.service", "a.service", "b.service", "more.service"}
	before := say(g)
	g.Reached(roots[:2])
	for range g.Reached(roots[:2]) {
	}
	g.Keep(roots[:2])
	if !slices.Equal(roots, []string{"z.service", "a.service", "b.service", "more.service"}) {
		t.Errorf("%q", roots)
	}
	for field, l := range lists(&u) {
		if all := (*l)[:cap(*l)]; !slices.Equal(all, spare[field]) {
			t.Errorf("%s became %q", field, all)
		}
		spoil(*l)
	}
	if got := say(g); got != before {
		t.Errorf("%s became %s", before, got)
	}
	if got, _ := g.Unit("a.service"); !reflect.DeepEqual(got, whole("a.service")) {
		t.Errorf("%+v", got)
	}
	if err := g.Remove("a.service"); err != 0 || row(g.Into("wants.service"))+row(g.Into("spoilt.service"))+row(g.Edges("t.service")) != "" {
		t.Errorf("%d, %s", err, say(g, "wants.service", "spoilt.service", "t.service"))
	}
}

func TestRootsAreTakenAtTheCall(t *testing.T) { // P15.3: whatever becomes of the list
	g := of(t, chain()...)
	roots := []string{"f.timer", "h.service"}
	reached := g.Reached(roots)
	spoil(roots)
	roots[0] = "a.service"
	for range 2 {
		if got := joined(reached); got != "f.timer g.service h.service" {
			t.Error(got)
		}
	}
}

func TestAnswersAreNewMemory(t *testing.T) { // P15.1, P15.3: none is touched by what is done with another one
	g := of(t, whole("a.service"), whole("b.service"))
	before := say(g)
	one, _ := g.Unit("a.service")
	two, _ := g.Unit("a.service")
	all := slices.Collect(g.Units())
	for field, l := range lists(&one) { // no two lists of one answer share any, either
		spoil(*l)
		for other, m := range lists(&one) {
			if other != field && slices.Contains((*m)[:len(*m)], "spoilt.service") {
				t.Errorf("%s shares memory with %s", other, field)
			}
		}
		*l = nil
	}
	for i, want := range []string{"a.service", "b.service"} {
		if !reflect.DeepEqual(all[i], whole(want)) {
			t.Errorf("%+v", all[i])
		}
		for _, l := range lists(&all[i]) {
			spoil(*l)
		}
	}
	if !reflect.DeepEqual(two, whole("a.service")) || say(g) != before {
		t.Errorf("%+v, %s became %s", two, before, say(g))
	}
	h := of(t, chain()...)
	first := h.Keep([]string{"d.service"})
	spoil(first)
	if second := h.Keep([]string{"f.timer"}); !slices.Equal(second, []string{"d.service", "e.service"}) {
		t.Errorf("%q", second)
	}
	if got := names(h.Units()); got != "f.timer g.service" {
		t.Error(got)
	}
}

func TestNilAndEmptyAreTheSame(t *testing.T) { // P15.1, P15.2, P15.3
	bare := api.Unit{Name: "a.service", Kind: 1}
	empty := bare
	for _, l := range lists(&empty) {
		*l = []string{}
	}
	g, h := of(t, bare), of(t, empty)
	u, _ := g.Unit("a.service")
	v, _ := h.Unit("a.service")
	if !setting.Same(u, v) || say(g, "shutdown.target") != say(h, "shutdown.target") {
		t.Errorf("%+v, %+v", u, v)
	}
	if joined(g.Reached(nil)) != "" || joined(g.Reached([]string{})) != "" {
		t.Error("nothing reaches something")
	}
	if a, b := g.Keep(nil), h.Keep([]string{}); !slices.Equal(a, b) || len(a) != 1 {
		t.Errorf("%q, %q", a, b)
	}
}

// checkLeft: that nothing more is given to who leaves, at each place, and that it can be gone through again, also while it is gone through.
func checkLeft[T any](t *testing.T, all iter.Seq[T], least int) {
	t.Helper()
	whole := slices.Collect(all)
	if len(whole) < least {
		t.Errorf("only %v", whole)
	}
	for most := 1; most <= len(whole); most++ {
		var got []T
		all(func(v T) bool {
			got = append(got, v)
			if again := slices.Collect(all); !reflect.DeepEqual(again, whole) {
				t.Errorf("meanwhile %v became %v", whole, again)
			}
			return len(got) < most
		})
		if !reflect.DeepEqual(got, whole[:most]) {
			t.Errorf("left at %d: %v of %v", most, got, whole)
		}
	}
	if again := slices.Collect(all); !reflect.DeepEqual(again, whole) {
		t.Errorf("%v became %v", whole, again)
	}
}

func TestIteratorsAreLeft(t *testing.T) { // P15.1, P15.2, P15.3
	g := of(t, append(chain(), api.Unit{Name: "z.target", Kind: 6, Wants: []string{"a.service", "b.service"}, PartOf: []string{"b.service"}, Before: []string{"a.service"}})...)
	checkLeft(t, g.Units(), 10)
	checkLeft(t, g.Edges("z.target"), 5)
	checkLeft(t, g.Into("b.service"), 4)
	checkLeft(t, g.Reached([]string{"c.service", "i.service"}), 6)
	checkLeft(t, New().Units(), 0)
}

func TestIteratorsGiveWhatIsHeldThen(t *testing.T) { // P15.1, P15.2, P15.3
	for _, g := range []*Graph{New(), {}} {
		units, edges, into, reached := g.Units(), g.Edges("a.service"), g.Into("b.service"), g.Reached([]string{"a.service"})
		say := func() string {
			return names(units) + ", " + row(edges) + ", " + row(into) + ", " + joined(reached)
		}
		check := func(want string) {
			t.Helper()
			if got := say(); got != want {
				t.Errorf("%s, wanted %s", got, want)
			}
		}
		check(", , , ")
		g.Add(api.Unit{Name: "a.service", Kind: 1, Plain: true, Wants: []string{"b.service"}})
		check("a.service, 1:a.service>b.service, 1:a.service>b.service, a.service")
		g.Add(api.Unit{Name: "b.service", Kind: 1, Plain: true, Before: []string{"a.service"}})
		check("a.service b.service, 1:a.service>b.service 6:a.service>b.service, 1:a.service>b.service 6:a.service>b.service, a.service b.service")
		g.Add(api.Unit{Name: "a.service", Kind: 1, Plain: true})
		check("a.service b.service, 6:a.service>b.service, 6:a.service>b.service, a.service")
		g.Keep([]string{"a.service"})
		check("a.service, , , a.service")
		g.Remove("a.service")
		check(", , , ")
	}
}

func TestIteratorsOfUnitsMayBeChanged(t *testing.T) { // P15.1: what one gets is one's own
	g := of(t, whole("a.service"), whole("b.service"))
	before := say(g)
	for range 2 {
		for u := range g.Units() {
			for _, l := range lists(&u) {
				spoil(*l)
			}
		}
	}
	if got := say(g); got != before {
		t.Errorf("%s became %s", before, got)
	}
}

func TestGraphsAreApart(t *testing.T) { // P15.1, P15.2
	g, h := New(), New()
	g.Add(api.Unit{Name: "a.service", Kind: 1, Wants: []string{"b.service"}})
	checkEmpty(t, h)
	h.Add(api.Unit{Name: "a.service", Kind: 1, Plain: true})
	if got := row(g.Edges("a.service")); got != "1:a.service>b.service 5:a.service>shutdown.target" {
		t.Error(got)
	}
	h.Remove("a.service")
	if got := names(g.Units()); got != "a.service" {
		t.Error(got)
	}
}

func TestZeroGraphIsAsNew(t *testing.T) { // no call panics
	checkEmpty(t, &Graph{})
	g, h := &Graph{}, New()
	for _, u := range append(chain(), api.Unit{Name: "no"}) {
		if a, b := g.Add(u), h.Add(u); a != b {
			t.Errorf("%s: %d, %d", u.Name, a, b)
		}
	}
	if say(g) != say(h) {
		t.Errorf("%s and %s", say(g), say(h))
	}
}

func TestReadingChangesNothing(t *testing.T) { // P15.1, P15.2, P15.3: several may read at once
	g := of(t, chain()...)
	before := say(g, "shutdown.target")
	var all sync.WaitGroup
	for range 4 {
		all.Go(func() {
			for range 20 {
				g.Unit("a.service")
				g.Has(1, "a.service", "b.service")
				if got := joined(g.Reached([]string{"f.timer"})); got != "f.timer g.service" {
					t.Error(got)
				}
				if got := say(g, "shutdown.target"); got != before {
					t.Errorf("%s became %s", before, got)
				}
			}
		})
	}
	all.Wait()
}

func TestUnitsFromFiles(t *testing.T) { // P15.1, P15.2: as layer 7 tells them
	g := New()
	for unit, text := range map[string]string{
		"web.service":     "[Unit]\nRequires=db.service\nAfter=db.service\n[Service]\nExecStart=run\n",
		"web.socket":      "[Unit]\nPartOf=web.service\n[Socket]\nListenStream=80\n",
		"multi.target":    "[Unit]\nWants=web.service tick.timer\n",
		"tick.timer":      "[Unit]\nDefaultDependencies=no\n[Timer]\nOnBootSec=5\nUnit=web.service\n",
		"shutdown.target": "",
	} {
		u, reports := setting.Load(unit, []string{text})
		if err := g.Add(u); err != 0 || len(reports) != 0 || u.Load != api.Loaded {
			t.Fatalf("%s: %d, %v", unit, err, reports)
		}
	}
	checkAll(t, g, []string{"db.service", "multi.target", "shutdown.target", "tick.timer", "web.service", "web.socket"},
		"1:multi.target>tick.timer 1:multi.target>web.service 6:multi.target>tick.timer 6:multi.target>web.service "+
			"6:shutdown.target>web.service 6:shutdown.target>web.socket 8:tick.timer>web.service "+
			"2:web.service>db.service 5:web.service>shutdown.target 6:web.service>db.service 6:web.service>tick.timer 6:web.service>web.socket "+
			"4:web.socket>web.service 5:web.socket>shutdown.target 8:web.socket>web.service")
	if gone := g.Keep([]string{"multi.target"}); !slices.Equal(gone, []string{"web.socket"}) {
		t.Errorf("%q", gone)
	}
}

func TestManyNames(t *testing.T) { // P15.2: lists of a unit have no bound here
	const many = 50000
	var l []string
	for i := range many {
		l = append(l, fmt.Sprintf("u%d.service", i))
	}
	g := of(t, api.Unit{Name: "a.service", Kind: 1, Plain: true, Wants: l, Before: l})
	if n := len(slices.Collect(g.Edges("a.service"))); n != many {
		t.Errorf("%d edges", n)
	}
	if n := len(slices.Collect(g.Into("a.service"))); n != many || !g.Has(6, "u777.service", "a.service") {
		t.Errorf("%d edges back", n)
	}
	for i := range 200 { // those that go through all edges each time would take long
		unit := fmt.Sprintf("u%d.service", i)
		if row(g.Edges(unit)) != "6:"+unit+">a.service" || row(g.Into(unit)) != "1:a.service>"+unit {
			t.Fatal(unit)
		}
	}
	if err := g.Remove("a.service"); err != 0 {
		t.Error(err)
	}
	checkEmpty(t, g)
}

func TestWhatIsGoneIsNotKept(t *testing.T) { // P15.2: edges of units that are gone
	g := New()
	for i := range 2000 {
		unit := fmt.Sprintf("u%d.service", i)
		g.Add(api.Unit{Name: unit, Kind: 1, Wants: []string{fmt.Sprintf("v%d.service", i)}, Before: []string{"a.service", "a.service"}})
		if i%2 == 0 {
			g.Remove(unit)
		} else {
			g.Keep([]string{"a.service"})
		}
	}
	if len(g.units)+len(g.forth)+len(g.back) != 0 {
		t.Errorf("%d, %d, %d are kept", len(g.units), len(g.forth), len(g.back))
	}
	checkEmpty(t, g)
}
