package order

import (
	"fmt"
	"math/rand"
	"slices"
	"strings"
	"testing"

	"reveille/api"
	"reveille/graph"
)

// after: the pairs of units of which the first one comes after the second one.
type after map[[2]string]bool

// saidWaits: P16.1, word by word.
func saidWaits(rs after, a, b api.Job) bool {
	u, v := a.Unit, b.Unit
	if u == v || !rs[[2]string{u, v}] && !rs[[2]string{v, u}] {
		return false
	}
	if (a.Kind == 2) != (b.Kind == 2) {
		return b.Kind == 2
	}
	if a.Kind == 2 {
		return rs[[2]string{v, u}]
	}
	return rs[[2]string{u, v}]
}

func byName(l []api.Job) []api.Job {
	l = slices.Clone(l)
	slices.SortFunc(l, func(a, b api.Job) int { return strings.Compare(a.Unit, b.Unit) })
	return l
}

// saidReady: P16.2, word by word, as are the next two.
func saidReady(rs after, l []api.Job) []api.Job {
	var ready []api.Job
	for _, a := range byName(l) {
		if !slices.ContainsFunc(l, func(b api.Job) bool { return saidWaits(rs, a, b) }) {
			ready = append(ready, a)
		}
	}
	return ready
}

func saidSort(rs after, l []api.Job) ([]api.Job, int) {
	var sorted []api.Job
	for left := slices.Clone(l); len(left) > 0; {
		ready := saidReady(rs, left)
		if len(ready) == 0 {
			return nil, 160
		}
		sorted = append(sorted, ready[0])
		left = slices.DeleteFunc(left, func(job api.Job) bool { return job == ready[0] })
	}
	return sorted, 0
}

func saidStuck(rs after, l []api.Job) []api.Job {
	left := byName(l)
	for i := 0; i < len(left); i++ {
		waits := slices.ContainsFunc(left, func(b api.Job) bool { return saidWaits(rs, left[i], b) })
		awaited := slices.ContainsFunc(left, func(b api.Job) bool { return saidWaits(rs, b, left[i]) })
		if !waits || !awaited {
			left = slices.Delete(left, i, i+1)
			i = -1
		}
	}
	return left
}

// graphOf: with just these RAfters; some are told of by the one end, some by the other one, some by both.
func graphOf(t *testing.T, rs after, names []string, told func(int) int) *graph.Graph {
	t.Helper()
	units := map[string]*api.Unit{}
	for _, n := range names {
		units[n] = &api.Unit{Name: n, Kind: api.Service, Plain: true}
	}
	for _, u := range names {
		for _, v := range names {
			if !rs[[2]string{u, v}] {
				continue
			}
			by := told(3)
			if by != 0 {
				units[u].After = append(units[u].After, v)
			}
			if by != 1 {
				units[v].Before = append(units[v].Before, u)
			}
		}
	}
	g := graph.New()
	for _, n := range names {
		if err := g.Add(*units[n]); err != 0 {
			t.Fatal(err)
		}
	}
	return g
}

// check: all calls on the jobs against the words.
func check(t *testing.T, g *graph.Graph, rs after, l []api.Job) {
	t.Helper()
	for _, a := range l {
		for _, b := range l {
			if got := Waits(g, a, b); got != saidWaits(rs, a, b) {
				t.Fatalf("%v: Waits(%v, %v) told %v", rs, a, b, got)
			}
		}
	}
	if got, want := slices.Collect(Ready(g, l)), saidReady(rs, l); !slices.Equal(got, want) {
		t.Fatalf("%v: Ready(%v) gave %v, wanted %v", rs, l, got, want)
	}
	sorted, err := Sort(g, l)
	if want, number := saidSort(rs, l); !slices.Equal(sorted, want) || int(err) != number {
		t.Fatalf("%v: Sort(%v) told %v, %d, wanted %v, %d", rs, l, sorted, err, want, number)
	}
	stuck := Stuck(g, l)
	if want := saidStuck(rs, l); !slices.Equal(stuck, want) {
		t.Fatalf("%v: Stuck(%v) told %v, wanted %v", rs, l, stuck, want)
	}
	checkFor(t, g, l, sorted, err, stuck)
}

// checkFor: what the layer is for.
func checkFor(t *testing.T, g *graph.Graph, l, sorted []api.Job, err api.Errno, stuck []api.Job) {
	t.Helper()
	if (err != 0) != (len(stuck) > 0) || err == 0 && len(sorted) != len(l) { // P16.3
		t.Fatalf("Sort(%v) told %v, %d, Stuck %v", l, sorted, err, stuck)
	}
	for i, a := range sorted {
		for _, b := range sorted[i:] {
			if Waits(g, a, b) { // P16.3
				t.Fatalf("%v stands ahead of %v: %v", a, b, sorted)
			}
		}
	}
}

// afterOf: the pairs of names whose bits are set.
func afterOf(names []string, bits int) after {
	rs := after{}
	for _, u := range names {
		for _, v := range names {
			if u != v {
				if bits&1 != 0 {
					rs[[2]string{u, v}] = true
				}
				bits >>= 1
			}
		}
	}
	return rs
}

func TestAllOrdersOfThree(t *testing.T) { // P16.1, P16.2, P16.3: all kinds, all rows of jobs
	names := []string{"a.service", "b.service", "c.service"}
	kinds := []int{1, 2, 3, 0, -1}
	for bits := range 1 << 6 {
		rs := afterOf(names, bits)
		g := graphOf(t, rs, names, func(n int) int { return bits % n })
		for code := range len(kinds) * len(kinds) * len(kinds) {
			a, b, c := kinds[code%5], kinds[code/5%5], kinds[code/25]
			l := []api.Job{{Id: 1, Unit: names[2], Kind: c}, {Id: 2, Unit: names[0], Kind: a}, {Id: 3, Unit: names[1], Kind: b}}
			check(t, g, rs, l)
			for i := range l {
				check(t, g, rs, []api.Job{l[(i+1)%3], l[i]})
			}
		}
	}
}

func TestAllOrdersOfFour(t *testing.T) { // P16.2, P16.3
	names := []string{"a.service", "b.service", "c.service", "d.service"}
	for bits := range 1 << 12 {
		rs := afterOf(names, bits)
		g := graphOf(t, rs, names, func(n int) int { return bits % n })
		for code := range 1 << 4 {
			var l []api.Job
			for i, n := range names {
				l = append(l, api.Job{Id: i, Unit: n, Kind: 1 + code>>i&1})
			}
			check(t, g, rs, l)
		}
	}
}

// randomCase: units of which so many in a hundred pairs come after each other, and jobs of some of them and of others.
func randomCase(t *testing.T, choose func(int) int) (*graph.Graph, after, []api.Job) {
	t.Helper()
	var names []string
	for i := range 2 + choose(11) {
		names = append(names, fmt.Sprintf("%c%d.service", 'a'+i, i))
	}
	dense := []int{3, 8, 15, 30}[choose(4)]
	circles := choose(2) == 0
	place := slices.Clone(names)
	for i := range place {
		j := choose(i + 1)
		place[i], place[j] = place[j], place[i]
	}
	rs := after{}
	for i, u := range place {
		for j, v := range place {
			if (i > j || circles && i < j) && choose(100) < dense {
				rs[[2]string{u, v}] = true
			}
		}
	}
	kinds := [][]int{{1}, {2}, {1, 3}, {1, 2}, {1, 2, 2, 3, 0, 9}}[choose(5)]
	var l []api.Job
	for _, n := range append(names, "none.service", "", "no name") {
		if choose(5) != 0 {
			l = append(l, api.Job{Id: choose(100), Unit: n, Kind: kinds[choose(len(kinds))], Running: choose(2) == 0})
		}
	}
	for i := range l {
		j := choose(i + 1)
		l[i], l[j] = l[j], l[i]
	}
	return graphOf(t, rs, names, choose), rs, l
}

func TestRandomOrders(t *testing.T) { // P16.1, P16.2, P16.3
	errs := 0
	for seed := range 6000 {
		g, rs, l := randomCase(t, rand.New(rand.NewSource(int64(seed))).Intn)
		check(t, g, rs, l)
		if _, err := Sort(g, l); err != 0 {
			errs++
		}
	}
	if errs < 500 || errs > 5000 { // both are to be seen
		t.Errorf("%d cycles", errs)
	}
}

func TestUnitsAtTheLimit(t *testing.T) { // P16.2, P16.3: MaxUnits units, and more jobs than that
	var names, more []string
	for i := range api.MaxUnits {
		names = append(names, fmt.Sprintf("u%d.service", i))
		more = append(more, fmt.Sprintf("v%d.service", i))
	}
	for seed := range 60 {
		choose := rand.New(rand.NewSource(int64(seed))).Intn
		rs := after{}
		g := graph.New()
		for i, n := range names {
			u := api.Unit{Name: n, Kind: api.Service, Plain: true}
			for range choose(4) {
				other := names[choose(1+i)]
				if choose(50) == 0 {
					other = names[choose(len(names))]
				}
				if choose(3) == 0 {
					other = more[choose(len(more))]
				}
				u.After = append(u.After, other)
				rs[[2]string{n, other}] = true
			}
			other := more[choose(len(more))]
			u.Before = append(u.Before, other)
			rs[[2]string{other, n}] = true
			if err := g.Add(u); err != 0 {
				t.Fatal(err)
			}
		}
		var l []api.Job
		for i, n := range append(names, more...) {
			l = append(l, api.Job{Id: i, Unit: n, Kind: []int{1, 3, 1, 1, 1 + choose(2)}[choose(5)]})
		}
		check(t, g, rs, l)
	}
}

func FuzzOrders(f *testing.F) { // P16.1, P16.2, P16.3
	f.Add([]byte{3, 1, 0, 1, 2, 1, 5, 0, 99, 3, 1, 4, 2, 1})
	f.Add([]byte("11,0,1,2,0,1,0,1,0,2,0,0,3,0,7,0,1,0"))
	f.Fuzz(func(t *testing.T, bytes []byte) {
		left := bytes
		g, rs, l := randomCase(t, func(n int) int {
			if len(left) == 0 {
				return 0
			}
			c := int(left[0]) % n
			left = left[1:]
			return c
		})
		check(t, g, rs, l)
	})
}
