package queue

import (
	"fmt"
	"math"
	"math/rand"
	"slices"
	"testing"
)

// item: an element; orders look at n alone, id tells like ones apart.
type item struct{ n, id int }

// model: a queue by the document's words: what is in it, as it was pushed.
type model struct {
	before func(a, b item) bool
	items  []item
}

// next: the place of the one that none is ahead of, of several the first one; -1, if there is nothing.
func (m *model) next() int {
	return slices.IndexFunc(m.items, func(x item) bool {
		return !slices.ContainsFunc(m.items, func(y item) bool { return m.before(y, x) })
	})
}

func (m *model) push(x item) { m.items = append(m.items, x) }

func (m *model) peek() (item, bool) {
	if len(m.items) == 0 {
		return item{}, false
	}
	return m.items[m.next()], true
}

func (m *model) pop() (item, int) {
	x, ok := m.peek()
	if !ok {
		return item{}, 130
	}
	i := m.next()
	m.items = slices.Delete(m.items, i, i+1)
	return x, 0
}

func (m *model) all() []item {
	rest := &model{m.before, slices.Clone(m.items)}
	var all []item
	for x, err := rest.pop(); err == 0; x, err = rest.pop() {
		all = append(all, x)
	}
	return all
}

func (m *model) drop(match func(item) bool) int {
	was := len(m.items)
	m.items = slices.DeleteFunc(m.items, match)
	return was - len(m.items)
}

// order: with its name.
type order struct {
	name   string
	before func(a, b int) bool
}

// number: of 0 to 11, the float; one of four is no number.
func number(n int) float64 {
	if n%4 == 0 {
		return math.NaN()
	}
	return float64(n)
}

// orders: strict ones; behind the fifth such as leave two open of which just one is ahead of a third.
func orders() []order {
	return []order{
		{"less", func(a, b int) bool { return a < b }},
		{"greater", func(a, b int) bool { return a > b }},
		{"thirds", func(a, b int) bool { return a/3 < b/3 }},
		{"odd ones ahead", func(a, b int) bool { return a%2 > b%2 }},
		{"none ahead", func(a, b int) bool { return false }},
		{"floats", func(a, b int) bool { return number(a) < number(b) }},
		{"divides", func(a, b int) bool { return a != b && a > 0 && b%a == 0 }},
		{"is divided", func(a, b int) bool { return a != b && b > 0 && a%b == 0 }},
		{"part of", func(a, b int) bool { return a != b && a&b == a }},
		{"both less", func(a, b int) bool { return a != b && a/4 <= b/4 && a%4 <= b%4 }},
		{"ends ahead", func(a, b int) bool { return a%4+a/4 < b%4 }}, // from n%4 on, n/4 long
		{"two rows", func(a, b int) bool { return a%2 == b%2 && a < b }},
		{"one pair", func(a, b int) bool { return a == 7 && b == 2 }},
		{"by far", func(a, b int) bool { return a+3 < b }},
	}
}

func (o order) items(a, b item) bool { return o.before(a.n, b.n) }

func TestOrdersAreStrict(t *testing.T) { // what the other tests take for granted
	for _, o := range orders() {
		if !strict(12, o.before) {
			t.Error(o.name)
		}
	}
}

// strict: whether before is a strict order of 0 to count-1.
func strict(count int, before func(a, b int) bool) bool {
	for a := range count {
		if before(a, a) {
			return false
		}
		for b := range count {
			for c := range count {
				if before(a, b) && before(b, c) && !before(a, c) {
					return false
				}
			}
		}
	}
	return true
}

// pair: a queue and its model, told the same.
type pair struct {
	q  *Queue[item]
	m  *model
	id int
}

func newPair(before func(a, b item) bool) *pair {
	return &pair{q: New(before), m: &model{before: before}}
}

// push: an element with that n and an id of its own.
func (p *pair) push(n int) {
	p.id++
	p.q.Push(item{n, p.id})
	p.m.push(item{n, p.id})
}

func (p *pair) pop(t *testing.T, where any) {
	t.Helper()
	x, err := p.q.Pop()
	if want, bad := p.m.pop(); x != want || int(err) != bad {
		t.Fatalf("%v: Pop told %v, %d, wanted %v, %d", where, x, err, want, bad)
	}
}

func (p *pair) drop(t *testing.T, where any, match func(item) bool) {
	t.Helper()
	if got, want := p.q.Drop(match), p.m.drop(match); got != want {
		t.Fatalf("%v: Drop told %d, wanted %d", where, got, want)
	}
}

// check: what can be asked without a change.
func (p *pair) check(t *testing.T, where any) {
	t.Helper()
	x, ok := p.q.Peek()
	if want, yes := p.m.peek(); x != want || ok != yes || p.q.Len() != len(p.m.items) {
		t.Fatalf("%v: Peek told %v, %v, wanted %v, %v; Len %d, wanted %d", where, x, ok, want, yes, p.q.Len(), len(p.m.items))
	}
	if got, want := slices.Collect(p.q.All()), p.m.all(); !slices.Equal(got, want) {
		t.Fatalf("%v: All gave %v, wanted %v", where, got, want)
	}
}

// drain: Pop until nothing is left, and once more.
func (p *pair) drain(t *testing.T, where any) {
	t.Helper()
	for range p.q.Len() + 1 {
		p.pop(t, where)
	}
	p.check(t, where)
}

// strictOrders: all of 0 to count-1, as tables.
func strictOrders(count int) [][][]bool {
	var tables [][][]bool
	for bits := range 1 << (count * (count - 1)) {
		table := make([][]bool, count)
		for a := range count {
			table[a] = make([]bool, count)
			for b := range count {
				if a != b {
					table[a][b] = bits&1 == 1
					bits >>= 1
				}
			}
		}
		if strict(count, func(a, b int) bool { return table[a][b] }) {
			tables = append(tables, table)
		}
	}
	return tables
}

func TestAllStrictOrdersOfFour(t *testing.T) { // P13.1, P13.2: all rows of pushes of 0 to 3 and pops
	tables := strictOrders(4)
	if len(tables) != 219 {
		t.Fatal(len(tables))
	}
	for _, table := range tables {
		for row := range 1 << 8 { // a bit that is set: a push
			p := newPair(func(a, b item) bool { return table[a.n][b.n] })
			where := []any{table, row}
			for ; row > 0 && p.id < 4; row >>= 1 {
				if row&1 == 1 {
					p.push(p.id)
				} else {
					p.pop(t, where)
				}
				p.check(t, where)
			}
			p.drain(t, where)
		}
	}
}

func TestAllStrictOrdersOfFive(t *testing.T) { // P13.1: whatever is dropped of 0 to 4
	tables := strictOrders(5)
	if len(tables) != 4231 {
		t.Fatal(len(tables))
	}
	for i, table := range tables {
		for set := range 1 << 5 {
			if (i+set)%3 > 0 && set > 0 { // a third of these is enough
				continue
			}
			p := newPair(func(a, b item) bool { return table[a.n][b.n] })
			where := []any{table, "without", set}
			for n := range 5 {
				p.push(n)
			}
			p.check(t, where)
			p.drop(t, where, func(x item) bool { return set>>x.n&1 == 1 })
			p.drain(t, where)
		}
	}
}

func TestAllShortRowsOfCalls(t *testing.T) { // P13.1, P13.2
	const length = 5
	for _, o := range orders() {
		for row := range 6 * 6 * 6 * 6 * 6 {
			p := newPair(o.items)
			where := []any{o.name, row}
			for range length {
				p.call(t, where, row%6)
				row /= 6
			}
			p.check(t, where)
			p.drain(t, where)
		}
	}
}

// call: a chosen one: three pushes, Pop, two drops.
func (p *pair) call(t *testing.T, where any, which int) {
	t.Helper()
	switch which {
	case 0, 1, 2:
		p.push([]int{6, 2, 7}[which])
	case 3:
		p.pop(t, where)
	case 4:
		p.drop(t, where, func(x item) bool { return x.n == 2 })
	case 5:
		p.drop(t, where, func(x item) bool { return x.id%2 == 0 })
	}
}

func TestCallsAgainstWords(t *testing.T) { // P13.1, P13.2
	for _, o := range orders() {
		for seed := range 40 {
			r := rand.New(rand.NewSource(int64(seed)))
			p := newPair(o.items)
			where := fmt.Sprintf("%s, seed %d", o.name, seed)
			for range 120 {
				switch r.Intn(20) {
				case 0:
					k := r.Intn(5)
					p.drop(t, where, func(x item) bool { return x.id%5 == k })
				case 1:
					k := r.Intn(12)
					p.drop(t, where, func(x item) bool { return x.n == k })
				case 2, 3, 4, 5, 6, 7, 8:
					p.pop(t, where)
				default:
					p.push(r.Intn(12))
				}
				p.check(t, where)
			}
			p.drain(t, where)
		}
	}
}

func TestRandomOrdersAgainstWords(t *testing.T) { // P13.1, P13.2: a is ahead of b, if it is so in each of some rows
	for seed := range 300 {
		r := rand.New(rand.NewSource(int64(seed)))
		var rows [][]int
		for range 1 + seed%4 {
			rows = append(rows, r.Perm(16))
		}
		p := newPair(func(a, b item) bool {
			return a.n != b.n && !slices.ContainsFunc(rows, func(row []int) bool { return row[a.n] > row[b.n] })
		})
		where := fmt.Sprint("seed ", seed)
		for range 100 {
			if r.Intn(5) < 3 {
				p.push(r.Intn(16))
			} else {
				p.pop(t, where)
			}
			p.check(t, where)
		}
		k := r.Intn(3)
		p.drop(t, where, func(x item) bool { return x.id%3 == k })
		p.drain(t, where)
	}
}

func FuzzCalls(f *testing.F) { // P13.1, P13.2
	for i := range orders() {
		f.Add([]byte{byte(i), 6, 2, 7, 200, 3, 9, 240, 1, 200, 5, 250})
	}
	f.Fuzz(func(t *testing.T, bytes []byte) {
		if len(bytes) == 0 {
			return
		}
		all := orders()
		o := all[int(bytes[0])%len(all)]
		p := newPair(o.items)
		for _, b := range bytes[1:min(len(bytes), 120)] {
			switch {
			case b < 160:
				p.push(int(b) % 12)
			case b < 230:
				p.pop(t, o.name)
			case b < 243:
				p.drop(t, o.name, func(x item) bool { return x.n == int(b)-230 })
			default:
				p.drop(t, o.name, func(x item) bool { return x.id%3 == int(b)%3 })
			}
			p.check(t, o.name)
		}
		p.drain(t, o.name)
	})
}
