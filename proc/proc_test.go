package proc

import (
	"fmt"
	"math"
	"math/rand"
	"slices"
	"strings"
	"testing"

	"reveille/api"
)

// sent: a process with the signals that were sent to it.
type sent struct {
	api.Proc
	term, kill bool
}

// state: what a table tells of all its processes.
func state(x *Table) []sent {
	var out []sent
	for p := range x.All() {
		term, kill := x.Signals(p.Pid)
		out = append(out, sent{p, term, kill})
	}
	return out
}

// show: a row of processes as text: `number<parent`, `z` and the status of one that has ended, `t` and `k` for its signals, group and command.
func show(l []sent) string {
	var words []string
	for _, p := range l {
		word := fmt.Sprintf("%d<%d", p.Pid, p.Parent)
		if p.Zombie {
			word += "z"
		}
		if p.Status != 0 {
			word += fmt.Sprint(p.Status)
		}
		if p.term {
			word += "t"
		}
		if p.kill {
			word += "k"
		}
		if p.Group != "" || p.Cmd != "" {
			word += "(" + p.Group + "," + p.Cmd + ")"
		}
		words = append(words, word)
	}
	return strings.Join(words, " ")
}

func say(x *Table) string { return show(state(x)) }

// call: of a table: its word, its numbers, its texts.
type call struct {
	word       string
	a, b       int
	group, cmd string
}

// reply: what a call answered; what it has no result for is zero.
type reply struct {
	number    int
	proc      api.Proc
	yes, also bool
	err       api.Errno
}

func run(x *Table, c call) reply {
	var r reply
	switch c.word {
	case "spawn":
		r.number, r.err = x.Spawn(c.a, c.group, c.cmd)
	case "fork":
		r.number, r.err = x.Fork(c.a)
	case "exit":
		r.err = x.Exit(c.a, c.b)
	case "kill":
		r.err = x.Kill(c.a, c.b)
	case "signals":
		r.yes, r.also = x.Signals(c.a)
	case "reap":
		r.proc, r.err = x.Reap(c.a)
	case "get":
		r.proc, r.yes = x.Get(c.a)
	case "len":
		r.number = x.Len()
	}
	return r
}

// model: a table by the document's words: a row of processes by number, process 1 with them.
type model struct {
	room, greatest int
	row            []sent
}

func newModel(room int) *model {
	return &model{room: min(max(room, 0), 64), greatest: 1, row: []sent{{Proc: api.Proc{Pid: 1}}}}
}

// place: where pid is in the row; -1: it isn't there.
func (m *model) place(pid int) int {
	return slices.IndexFunc(m.row, func(p sent) bool { return p.Pid == pid })
}

// canEnd: it is there, isn't 1 and hasn't ended.
func (m *model) canEnd(pid int) bool {
	i := m.place(pid)
	return i > 0 && !m.row[i].Zombie
}

func (m *model) begin(parent int, group, cmd string) reply {
	if len(m.row)-1 >= m.room {
		return reply{err: 81}
	}
	m.greatest++
	m.row = append(m.row, sent{Proc: api.Proc{Pid: m.greatest, Parent: parent, Group: group, Cmd: cmd}})
	return reply{number: m.greatest}
}

func (m *model) exit(pid, status int) reply {
	if !m.canEnd(pid) {
		return reply{err: 80}
	}
	if !(0 <= status && status <= 255 || -64 <= status && status <= -1) {
		status = 255
	}
	for i, p := range m.row {
		if p.Pid == pid {
			m.row[i].Zombie, m.row[i].Status = true, status
		}
		if p.Parent == pid {
			m.row[i].Parent = 1
		}
	}
	return reply{}
}

func (m *model) kill(pid, sig int) reply {
	if !m.canEnd(pid) || sig != 15 && sig != 9 {
		return reply{err: 80}
	}
	p := &m.row[m.place(pid)]
	p.term = p.term || sig == 15
	p.kill = p.kill || sig == 9
	return reply{}
}

func (m *model) reap(parent int) reply {
	for i, p := range m.row {
		if p.Parent == parent && p.Zombie {
			m.row = slices.Delete(m.row, i, i+1)
			return reply{proc: p.Proc}
		}
	}
	return reply{err: 80}
}

func (m *model) run(c call) reply {
	i := m.place(c.a)
	switch c.word {
	case "spawn":
		if i < 0 || m.row[i].Zombie {
			return reply{err: 80}
		}
		return m.begin(c.a, c.group, c.cmd)
	case "fork":
		if !m.canEnd(c.a) || m.row[i].kill {
			return reply{err: 80}
		}
		return m.begin(c.a, m.row[i].Group, m.row[i].Cmd)
	case "exit":
		return m.exit(c.a, c.b)
	case "kill":
		return m.kill(c.a, c.b)
	case "signals":
		return reply{yes: i >= 0 && m.row[i].term, also: i >= 0 && m.row[i].kill}
	case "reap":
		return m.reap(c.a)
	case "get":
		if i >= 0 {
			return reply{proc: m.row[i].Proc, yes: true}
		}
		return reply{}
	}
	return reply{number: len(m.row) - 1}
}

// check: that a table holds what its model does, and tells no process beside.
func check(t *testing.T, x *Table, m *model, said any) {
	t.Helper()
	if got := state(x); !slices.Equal(got, m.row) {
		t.Fatalf("%v: the table is\n%s, wanted\n%s", said, show(got), show(m.row))
	}
	for pid := -2; pid <= m.greatest+2; pid++ {
		for _, c := range []call{{word: "get", a: pid}, {word: "signals", a: pid}, {word: "len"}} {
			if got, want := run(x, c), m.run(c); got != want {
				t.Fatalf("%v: %v answered %v, wanted %v", said, c, got, want)
			}
		}
	}
}

// checkParents: P8.3 of what All tells.
func checkParents(t *testing.T, x *Table) {
	t.Helper()
	for p := range x.All() {
		parent, there := x.Get(p.Parent)
		if p.Pid != 1 && (!there || parent.Zombie || parent.Pid == p.Pid) {
			t.Fatalf("%d has no parent: %s", p.Pid, say(x))
		}
	}
}

// checkCalls: that a table answers calls as its model does.
func checkCalls(t *testing.T, room int, calls []call) {
	t.Helper()
	x, m := New(room), newModel(room)
	check(t, x, m, "New")
	for i, c := range calls {
		before := say(x)
		got, want := run(x, c), m.run(c)
		if got != want {
			t.Fatalf("room %d, %v: answered %v, wanted %v", room, calls[:i+1], got, want)
		}
		if got.err != 0 && say(x) != before {
			t.Fatalf("room %d, %v: it erred and changed the table", room, calls[:i+1])
		}
		check(t, x, m, calls[:i+1])
		checkParents(t, x)
	}
}

// readCalls: calls as text: `s1` spawns a child of 1, `f2` forks 2, `x2` ends it, `t2` and `k2` send it signals, `r1` reaps a child of 1.
func readCalls(text string) []call {
	var calls []call
	for _, word := range strings.Fields(text) {
		c := map[byte]call{
			's': {word: "spawn", group: "g", cmd: "c"}, 'f': {word: "fork"}, 'x': {word: "exit", b: 7},
			't': {word: "kill", b: 15}, 'k': {word: "kill", b: 9}, 'r': {word: "reap"},
		}[word[0]]
		fmt.Sscan(word[1:], &c.a)
		calls = append(calls, c)
	}
	return calls
}

// build: a table after calls that are all taken.
func build(t *testing.T, room int, text string) *Table {
	t.Helper()
	x := New(room)
	for _, c := range readCalls(text) {
		if r := run(x, c); r.err != 0 {
			t.Fatalf("%s: %v answered %d", text, c, r.err)
		}
	}
	return x
}

// extremes: numbers that no process has.
func extremes() []int {
	return []int{math.MinInt, math.MinInt32, -65, -1, 0, 99, math.MaxInt32, math.MaxInt32 + 2, 1<<32 + 1, 1<<32 + 2, math.MaxInt}
}

func TestNew(t *testing.T) { // P8.1
	x := New(3)
	if got := say(x); got != "1<0" || x.Len() != 0 {
		t.Errorf("New: %s, %d", got, x.Len())
	}
	if p, there := x.Get(1); p != (api.Proc{Pid: 1}) || !there {
		t.Errorf("Get(1): %v, %v", p, there)
	}
}

func TestNewHasRoom(t *testing.T) { // P8.1
	rooms := []int{math.MinInt, math.MinInt32, 1 << 20, math.MaxInt32, 1 << 32, math.MaxInt}
	for room := -3; room <= 70; room++ {
		rooms = append(rooms, room)
	}
	for _, room := range rooms {
		want := min(max(room, 0), 64)
		for _, nested := range []bool{false, true} {
			x := New(room)
			parent := 1
			for i := range want {
				number, err := x.Spawn(parent, "", "")
				if number != i+2 || err != 0 || x.Len() != i+1 {
					t.Fatalf("room %d: the %dth is %d, %d", room, i+1, number, err)
				}
				if nested {
					parent = number
				}
			}
			checkFull(t, x, want)
		}
	}
}

// checkFull: that a table with so many processes, none of which has ended or is to, takes no more.
func checkFull(t *testing.T, x *Table, count int) {
	t.Helper()
	before := say(x)
	for pid := 1; pid <= count+1; pid++ {
		if number, err := x.Spawn(pid, "g", "c"); number != 0 || err != 81 {
			t.Fatalf("%d are there: Spawn(%d) answered %d, %d", count, pid, number, err)
		}
		want := api.Errno(81)
		if pid == 1 {
			want = 80
		}
		if number, err := x.Fork(pid); number != 0 || err != want {
			t.Fatalf("%d are there: Fork(%d) answered %d, %d", count, pid, number, err)
		}
	}
	if say(x) != before || x.Len() != count {
		t.Fatalf("%d are there: %s, %d", count, say(x), x.Len())
	}
}

func TestZeroTableHasProcessOneAndNoRoom(t *testing.T) { // P8.1
	var x Table
	_, err := x.Spawn(1, "", "")
	_, reaped := x.Reap(1)
	if say(&x) != "1<0" || x.Len() != 0 || err != 81 || reaped != 80 || x.Exit(1, 0) != 80 || x.Kill(1, 9) != 80 {
		t.Errorf("%s, %d, %d", say(&x), err, reaped)
	}
}

func TestSpawn(t *testing.T) { // P8.1
	x := New(9)
	for i, c := range []struct {
		parent     int
		group, cmd string
	}{{1, "a.service", "run a"}, {1, "", ""}, {2, "b.service", "\x00\xff"}, {4, "a.service", ""}, {1, "", strings.Repeat("c", 100000)}} {
		number, err := x.Spawn(c.parent, c.group, c.cmd)
		p, there := x.Get(number)
		if number != i+2 || err != 0 || !there || p != (api.Proc{Pid: i + 2, Parent: c.parent, Group: c.group, Cmd: c.cmd}) {
			t.Errorf("%v: %d, %d, %v", c, number, err, p)
		}
	}
}

func TestSpawnNeedsAParent(t *testing.T) { // P8.1
	x := build(t, 9, "s1 s1 s1 f4 x3 x4 r1 k2 t5")
	before := say(x)
	if before != "1<0 2<1k(g,c) 4<1z7(g,c) 5<1t(g,c)" {
		t.Fatal(before)
	}
	for _, parent := range append(extremes(), 3, 4, 6) { // 3 was reaped, 4 has ended
		if number, err := x.Spawn(parent, "g", "c"); number != 0 || err != 80 {
			t.Errorf("Spawn(%d): %d, %d", parent, number, err)
		}
	}
	if say(x) != before {
		t.Errorf("%s became %s", before, say(x))
	}
	for i, parent := range []int{2, 5, 1} { // signals take nothing from a parent here
		if number, err := x.Spawn(parent, "g", "c"); number != 6+i || err != 0 {
			t.Errorf("Spawn(%d): %d, %d", parent, number, err)
		}
	}
}

func TestErrProcIsAheadOfErrProcFull(t *testing.T) { // P8.1
	x := build(t, 3, "s1 s1 s1 x3 k4")
	for _, parent := range []int{-1, 0, 3, 5} {
		if number, err := x.Spawn(parent, "", ""); number != 0 || err != 80 {
			t.Errorf("Spawn(%d): %d, %d", parent, number, err)
		}
	}
	for _, pid := range []int{-1, 0, 1, 3, 4, 5} {
		if number, err := x.Fork(pid); number != 0 || err != 80 {
			t.Errorf("Fork(%d): %d, %d", pid, number, err)
		}
	}
	for _, parent := range []int{1, 2, 4} {
		if number, err := x.Spawn(parent, "", ""); number != 0 || err != 81 {
			t.Errorf("Spawn(%d): %d, %d", parent, number, err)
		}
	}
	if number, err := x.Fork(2); number != 0 || err != 81 {
		t.Errorf("Fork(2): %d, %d", number, err)
	}
}

func TestEndedOnesTakeRoomUntilReaped(t *testing.T) { // P8.1, P8.3
	x := build(t, 2, "s1 s1 x2 x3")
	if _, err := x.Spawn(1, "", ""); err != 81 || x.Len() != 2 {
		t.Errorf("%d, %s", err, say(x))
	}
	x.Reap(1)
	if number, err := x.Spawn(1, "", ""); number != 4 || err != 0 || x.Len() != 2 {
		t.Errorf("%d, %d, %s", number, err, say(x))
	}
	if _, err := x.Spawn(1, "", ""); err != 81 {
		t.Errorf("%d, %s", err, say(x))
	}
}

func TestNumbersAreGivenOnce(t *testing.T) { // P8.1
	x := New(1)
	for want := 2; want < 3000; want++ {
		number, err := x.Spawn(1, "", "")
		if _, full := x.Spawn(1, "", ""); full != 81 {
			t.Fatalf("%d: %d", want, full)
		}
		x.Exit(number, 0)
		if p, reaped := x.Reap(1); number != want || err != 0 || p.Pid != want || reaped != 0 || x.Len() != 0 {
			t.Fatalf("%d: %d, %d, %v, %d", want, number, err, p, reaped)
		}
	}
}

func TestFork(t *testing.T) { // P8.1
	x := New(9)
	x.Spawn(1, "a.service", "run a")
	x.Spawn(2, "b.service", "run b")
	x.Kill(2, 15) // takes nothing from it, and isn't handed on
	for i, pid := range []int{2, 3, 4} {
		number, err := x.Fork(pid)
		p, there := x.Get(number)
		like, _ := x.Get(pid)
		if number != 4+i || err != 0 || !there || p != (api.Proc{Pid: 4 + i, Parent: pid, Group: like.Group, Cmd: like.Cmd}) {
			t.Errorf("Fork(%d): %d, %d, %v", pid, number, err, p)
		}
	}
	if got := say(x); got != "1<0 2<1t(a.service,run a) 3<2(b.service,run b) 4<2(a.service,run a) 5<3(b.service,run b) 6<4(a.service,run a)" {
		t.Error(got)
	}
}

func TestForkIsRefused(t *testing.T) { // P8.1
	x := build(t, 9, "s1 s1 s1 s1 x3 x4 r1 k2 t5 k5")
	before := say(x)
	for _, pid := range append(extremes(), 1, 2, 3, 4, 5, 6) {
		if number, err := x.Fork(pid); number != 0 || err != 80 {
			t.Errorf("Fork(%d): %d, %d", pid, number, err)
		}
	}
	if say(x) != before {
		t.Errorf("%s became %s", before, say(x))
	}
	if number, err := x.Spawn(1, "", ""); number != 6 || err != 0 { // the refused ones took no number
		t.Errorf("%d, %d", number, err)
	}
}

func TestExitKeepsAStatus(t *testing.T) { // P8.2
	statuses := []int{math.MinInt, math.MinInt32, -1 << 32, 1 << 32, 1<<32 - 9, math.MaxInt32, math.MaxInt}
	for status := -600; status <= 600; status++ {
		statuses = append(statuses, status)
	}
	for _, status := range statuses {
		want := status
		if status < -64 || status > 255 {
			want = 255
		}
		x := New(1)
		x.Spawn(1, "g", "c")
		err := x.Exit(2, status)
		p, there := x.Get(2)
		if err != 0 || !there || p != (api.Proc{Pid: 2, Parent: 1, Group: "g", Zombie: true, Status: want, Cmd: "c"}) {
			t.Errorf("Exit(2, %d): %d, %v", status, err, p)
		}
		if again := x.Exit(2, 1); again != 80 {
			t.Errorf("Exit of an ended one: %d", again)
		}
		if r, err := x.Reap(1); r != p || err != 0 {
			t.Errorf("Reap: %v, %d", r, err)
		}
	}
}

func TestExitGivesItsChildrenToOne(t *testing.T) { // P8.2, P8.3
	for _, row := range []struct{ calls, want string }{
		{"s1 f2 x2", "1<0 2<1z7(g,c) 3<1(g,c)"},
		{"s1 f2 f2 s2 x4 x2", "1<0 2<1z7(g,c) 3<1(g,c) 4<1z7(g,c) 5<1(g,c)"},
		{"s1 f2 f3 f4 x3", "1<0 2<1(g,c) 3<2z7(g,c) 4<1(g,c) 5<4(g,c)"}, // its children's children stay theirs
		{"s1 f2 f3 x4 x3 x2", "1<0 2<1z7(g,c) 3<1z7(g,c) 4<1z7(g,c)"},
		{"s1 s1 f2 f3 x2", "1<0 2<1z7(g,c) 3<1(g,c) 4<1(g,c) 5<3(g,c)"}, // another one's too
		{"s1 f2 t3 k3 x2", "1<0 2<1z7(g,c) 3<1tk(g,c)"},
		{"s1 f2 x3 x2 r1", "1<0 3<1z7(g,c)"},
		{"s1 f2 x2 r1 x3 r1", "1<0"},
	} {
		x := build(t, 9, row.calls)
		if got := say(x); got != row.want {
			t.Errorf("%s: %s, wanted %s", row.calls, got, row.want)
		}
		checkParents(t, x)
	}
}

func TestExitIsRefused(t *testing.T) { // P8.2
	x := build(t, 9, "s1 s1 f3 x2 r1 x4")
	before := say(x)
	for _, pid := range append(extremes(), 1, 2, 4, 5) {
		if err := x.Exit(pid, 3); err != 80 {
			t.Errorf("Exit(%d): %d", pid, err)
		}
	}
	if say(x) != before || before != "1<0 3<1(g,c) 4<3z7(g,c)" {
		t.Errorf("%s became %s", before, say(x))
	}
}

func TestKill(t *testing.T) { // P8.2
	sigs := extremes()
	for sig := -70; sig <= 300; sig++ {
		sigs = append(sigs, sig)
	}
	for _, sig := range append(sigs, 1<<32+9, 1<<32+15) {
		x := build(t, 2, "s1 s1")
		want := api.Errno(80)
		if sig == 15 || sig == 9 {
			want = 0
		}
		err := x.Kill(2, sig)
		term, kill := x.Signals(2)
		if err != want || term != (sig == 15) || kill != (sig == 9) {
			t.Errorf("Kill(2, %d): %d, %v, %v", sig, err, term, kill)
		}
		if other, one := x.Signals(3); other || one {
			t.Errorf("Kill(2, %d): 3 has it", sig)
		}
	}
}

func TestKillIsNotedOnly(t *testing.T) { // P8.2
	for _, row := range []struct{ calls, want string }{
		{"s1 t2", "1<0 2<1t(g,c)"},
		{"s1 k2", "1<0 2<1k(g,c)"},
		{"s1 t2 k2", "1<0 2<1tk(g,c)"},
		{"s1 k2 t2", "1<0 2<1tk(g,c)"},
		{"s1 t2 t2", "1<0 2<1t(g,c)"},
		{"s1 k2 k2", "1<0 2<1k(g,c)"},
		{"s1 t2 k2 x2", "1<0 2<1z7tk(g,c)"}, // an ended one was still sent them
		{"s1 t2 f2", "1<0 2<1t(g,c) 3<2(g,c)"},
		{"s1 f2 k2 x2", "1<0 2<1z7k(g,c) 3<1(g,c)"},
	} {
		if got := say(build(t, 9, row.calls)); got != row.want {
			t.Errorf("%s: %s, wanted %s", row.calls, got, row.want)
		}
	}
}

func TestKillIsRefused(t *testing.T) { // P8.2
	x := build(t, 9, "s1 s1 f3 x2 r1 x4")
	before := say(x)
	for _, pid := range append(extremes(), 1, 2, 4, 5) {
		for _, sig := range []int{9, 15, 1} {
			if err := x.Kill(pid, sig); err != 80 {
				t.Errorf("Kill(%d, %d): %d", pid, sig, err)
			}
		}
	}
	if say(x) != before {
		t.Errorf("%s became %s", before, say(x))
	}
}

func TestSignalsOfNobody(t *testing.T) { // P8.2
	x := build(t, 9, "s1 t2 k2 x2 r1 s1 t3 k3")
	for _, pid := range append(extremes(), 1, 2, 4) { // 2 was reaped
		if term, kill := x.Signals(pid); term || kill {
			t.Errorf("Signals(%d): %v, %v", pid, term, kill)
		}
	}
}

func TestReapTellsTheLeast(t *testing.T) { // P8.2
	x := build(t, 20, "s1 s1 f3 f3 f3 f3 x6 x4 x2 t5 k5")
	for _, row := range []struct {
		parent int
		want   string
		left   string
	}{
		{3, "4<3z7(g,c)", "1<0 2<1z7(g,c) 3<1(g,c) 5<3tk(g,c) 6<3z7(g,c) 7<3(g,c)"},
		{3, "6<3z7(g,c)", "1<0 2<1z7(g,c) 3<1(g,c) 5<3tk(g,c) 7<3(g,c)"},
		{1, "2<1z7(g,c)", "1<0 3<1(g,c) 5<3tk(g,c) 7<3(g,c)"},
	} {
		p, err := x.Reap(row.parent)
		if got := show([]sent{{Proc: p}}); got != row.want || err != 0 || say(x) != row.left {
			t.Errorf("Reap(%d): %s, %d, %s", row.parent, got, err, say(x))
		}
	}
}

func TestReapIsRefused(t *testing.T) { // P8.2, P8.3
	x := build(t, 9, "s1 f2 f2 f3 x5 x4 r2 r3")
	before := say(x)
	for _, parent := range append(extremes(), 1, 2, 3, 4, 5, 6) {
		if p, err := x.Reap(parent); p != (api.Proc{}) || err != 80 {
			t.Errorf("Reap(%d): %v, %d", parent, p, err)
		}
	}
	if say(x) != before || before != "1<0 2<1(g,c) 3<2(g,c)" {
		t.Errorf("%s became %s", before, say(x))
	}
	x.Exit(2, 0)
	for _, parent := range []int{0, 2, 3} { // an ended one has no children to be reaped
		if p, err := x.Reap(parent); p != (api.Proc{}) || err != 80 {
			t.Errorf("Reap(%d): %v, %d", parent, p, err)
		}
	}
}

func TestReapTellsEachOnce(t *testing.T) { // P8.2, P8.3
	x := New(64)
	for i := range 64 {
		x.Spawn(1+i/2, "", "") // a tree
	}
	for _, i := range rand.New(rand.NewSource(1)).Perm(64) {
		x.Exit(i+2, i)
	}
	for i := range 64 {
		if x.Len() != 64-i {
			t.Fatalf("%d are left", x.Len())
		}
		if p, err := x.Reap(1); err != 0 || p != (api.Proc{Pid: i + 2, Parent: 1, Zombie: true, Status: i}) {
			t.Fatalf("%d: %v, %d", i, p, err)
		}
		if p, there := x.Get(i + 2); p != (api.Proc{}) || there {
			t.Fatalf("%d: %v is there", i, p)
		}
	}
	if _, err := x.Reap(1); err != 80 || say(x) != "1<0" {
		t.Errorf("%d, %s", err, say(x))
	}
}

func TestGet(t *testing.T) { // P8.2
	x := build(t, 9, "s1 f2 x3 s1 x4 r1")
	for _, row := range []struct {
		pid  int
		want api.Proc
	}{
		{1, api.Proc{Pid: 1}},
		{2, api.Proc{Pid: 2, Parent: 1, Group: "g", Cmd: "c"}},
		{3, api.Proc{Pid: 3, Parent: 2, Group: "g", Cmd: "c", Zombie: true, Status: 7}},
	} {
		if p, there := x.Get(row.pid); p != row.want || !there {
			t.Errorf("Get(%d): %v, %v", row.pid, p, there)
		}
	}
	for _, pid := range append(extremes(), 4, 5) {
		if p, there := x.Get(pid); p != (api.Proc{}) || there {
			t.Errorf("Get(%d): %v, %v", pid, p, there)
		}
	}
}

func pids(x *Table) []int {
	var out []int
	for p := range x.All() {
		out = append(out, p.Pid)
	}
	return out
}

func TestAllIsByNumber(t *testing.T) { // P8.2
	x := New(64)
	want := []int{1}
	for i := range 64 {
		x.Spawn(1, "", "")
		want = append(want, i+2)
	}
	for range 20 { // a map would show its order sooner or later
		if got := pids(x); !slices.Equal(got, want) {
			t.Fatal(got)
		}
	}
}

func TestAllIsLeftAndGoneThroughAgain(t *testing.T) { // P8.2
	x := build(t, 9, "s1 f2 f2 x3")
	want := slices.Collect(x.All())
	all := x.All()
	for most := range len(want) {
		var got []api.Proc
		for p := range all {
			got = append(got, p)
			if len(got) > most {
				break
			}
		}
		if !slices.Equal(got, want[:most+1]) {
			t.Errorf("left at %d: %v", most, got)
		}
	}
	seen := 0
	for outer := range all {
		var got []api.Proc
		for inner := range all {
			got = append(got, inner)
		}
		if outer != want[seen] || !slices.Equal(got, want) {
			t.Errorf("within another: %v, %v", outer, got)
		}
		seen++
	}
	if seen != len(want) {
		t.Errorf("%d of %d", seen, len(want))
	}
}

func TestAllGivesWhatIsHeldThen(t *testing.T) { // P8.2
	x := New(9)
	all := x.All()
	for _, c := range readCalls("r1 s1 f2 t3 x2 r1 k3 x3 r1") { // the first one is refused
		run(x, c)
		if got, want := slices.Collect(all), slices.Collect(x.All()); !slices.Equal(got, want) {
			t.Errorf("%v: %v, wanted %v", c, got, want)
		}
	}
}

func TestReadingChangesNothing(t *testing.T) { // P8.2
	x := build(t, 9, "s1 f2 f2 x3 t2 k4")
	before := say(x)
	for range 3 {
		for pid := -2; pid < 9; pid++ {
			x.Get(pid)
			x.Signals(pid)
			x.Len()
		}
		for range x.All() {
			break
		}
	}
	if say(x) != before {
		t.Errorf("%s became %s", before, say(x))
	}
}

func TestAnswersAreNewMemory(t *testing.T) { // P8.2
	x := build(t, 9, "s1 f2 x3")
	before := say(x)
	p, _ := x.Get(2)
	p.Pid, p.Parent, p.Group, p.Zombie, p.Status, p.Cmd = 9, 9, "x", true, 9, "x"
	for p := range x.All() {
		p.Pid, p.Parent, p.Group, p.Zombie, p.Status, p.Cmd = 9, 9, "x", true, 9, "x"
	}
	if say(x) != before {
		t.Errorf("%s became %s", before, say(x))
	}
}

func TestTablesAreApart(t *testing.T) { // P8.1
	x, y := New(2), New(2)
	x.Spawn(1, "x", "")
	x.Kill(2, 9)
	if number, err := y.Spawn(1, "y", ""); number != 2 || err != 0 {
		t.Errorf("%d, %d", number, err)
	}
	y.Exit(2, 3)
	if say(x) != "1<0 2<1k(x,)" || say(y) != "1<0 2<1z3(y,)" {
		t.Errorf("%s, %s", say(x), say(y))
	}
}

// each: all rows of just so many of the calls.
func each(calls []call, length int, do func([]call)) {
	row := make([]call, length)
	var fill func(int)
	fill = func(i int) {
		if i == length {
			do(row)
			return
		}
		for _, c := range calls {
			row[i] = c
			fill(i + 1)
		}
	}
	fill(0)
}

func TestAllShortRowsOfCalls(t *testing.T) { // P8.1, P8.2, P8.3
	calls := []call{
		{word: "spawn", a: 1, group: "g", cmd: "c"}, {word: "spawn", a: 2, group: "h"}, {word: "fork", a: 2}, {word: "fork", a: 3},
		{word: "exit", a: 2, b: -9}, {word: "exit", a: 3}, {word: "kill", a: 2, b: 9}, {word: "kill", a: 3, b: 15},
		{word: "reap", a: 1}, {word: "reap", a: 2}, {word: "reap", a: 3},
	}
	for length := range 6 {
		each(calls, length, func(row []call) {
			x, m := New(2), newModel(2)
			for _, c := range row {
				if got, want := run(x, c), m.run(c); got != want {
					t.Fatalf("%v: %v answered %v, wanted %v", row, c, got, want)
				}
			}
			check(t, x, m, row)
		})
	}
}

// randomCall: mostly of numbers that are or were there.
func randomCall(r *rand.Rand, greatest int) call {
	words := []string{"spawn", "spawn", "fork", "fork", "exit", "kill", "reap", "reap"}
	c := call{word: words[r.Intn(len(words))], a: r.Intn(greatest+3) - 1}
	switch c.word {
	case "spawn":
		c.group, c.cmd = fmt.Sprint("g", r.Intn(3)), fmt.Sprint("c", r.Intn(3))
	case "exit":
		c.b = r.Intn(700) - 300
	case "kill":
		c.b = []int{15, 9, 15, 1}[r.Intn(4)]
	}
	if r.Intn(3) == 0 {
		c.a = 1
	}
	return c
}

func TestCallsAgainstWords(t *testing.T) { // P8.1, P8.2, P8.3
	for seed := range 400 {
		r := rand.New(rand.NewSource(int64(seed)))
		room := []int{0, 1, 2, 3, 5, 9, 20, 64, 70}[seed%9]
		var calls []call
		for range 60 {
			calls = append(calls, randomCall(r, min(len(calls), 12)))
		}
		checkCalls(t, room, calls)
	}
}

func TestManyCallsAgainstWords(t *testing.T) { // P8.1, P8.2, P8.3
	r := rand.New(rand.NewSource(5))
	x, m := New(64), newModel(64)
	full := 0
	for i := range 30000 {
		c := randomCall(r, 0)
		if r.Intn(4) > 0 { // one that is there
			c.a = m.row[r.Intn(len(m.row))].Pid
		}
		if c.word == "exit" && r.Intn(2) == 0 {
			c.word = "len"
		}
		got, want := run(x, c), m.run(c)
		if got != want {
			t.Fatalf("call %d, %v: answered %v, wanted %v", i, c, got, want)
		}
		if got.err == 81 {
			full++
		}
		if !slices.Equal(state(x), m.row) {
			t.Fatalf("call %d, %v: the table is\n%s, wanted\n%s", i, c, say(x), show(m.row))
		}
		checkParents(t, x)
	}
	if full < 100 || m.greatest < 1000 {
		t.Errorf("%d were refused for want of room, %d were begun: too few", full, m.greatest)
	}
}

func FuzzCalls(f *testing.F) { // P8.1, P8.2, P8.3
	f.Add(3, []byte("\x00\x01\x00\x01\x02\x00\x02\x02\x05"))
	f.Add(64, []byte("\x00\x01\x00\x03\x02\x09\x01\x02\x00\x04\x01\x00"))
	f.Add(-1, []byte("\x00\x01\x00"))
	f.Fuzz(func(t *testing.T, room int, text []byte) {
		words := []string{"spawn", "fork", "exit", "kill", "reap"}
		var calls []call
		for ; len(text) >= 3 && len(calls) < 150; text = text[3:] {
			c := call{word: words[int(text[0])%len(words)], a: int(int8(text[1])) % 70, b: int(int8(text[2])) * 3}
			if c.word == "spawn" {
				c.group, c.cmd = string(text[2:3]), string(text[:1])
			}
			calls = append(calls, c)
		}
		checkCalls(t, room, calls)
	})
}
