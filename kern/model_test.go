package kern

import (
	"fmt"
	"math"
	"math/big"
	"slices"
	"strings"
	"testing"

	"reveille/api"
)

// call: of a kernel, or of its groups or ports: its word, its numbers, its texts.
type call struct {
	word        string
	pid, n      int
	group, text string
	span        int64
}

// reply: what a call answered; what it has no result for is zero.
type reply struct {
	err  api.Errno
	n    int
	proc api.Proc
	note api.Datagram
	name string
	yes  bool
}

func run(k *Kernel, c call) reply {
	var r reply
	switch c.word {
	case "make":
		r.err = k.Groups().Make(c.group)
	case "remove":
		r.err = k.Groups().Remove(c.group)
	case "emptied":
		r.name, r.yes = k.Groups().Emptied()
	case "receive":
		r.note, r.yes = k.Ports().Receive()
	case "spawn":
		r.n, r.err = k.Spawn(c.group, c.text)
	case "fork":
		r.n, r.err = k.Fork(c.pid)
	case "exit":
		r.err = k.Exit(c.pid, c.n)
	case "die":
		r.err = k.Die(c.pid)
	case "kill":
		r.err = k.Kill(c.pid, c.n)
	case "killgroup":
		r.n = k.KillGroup(c.group, c.n)
	case "reap":
		r.proc, r.err = k.Reap()
	case "wait":
		r.err = k.Wait(c.pid)
	case "notify":
		r.err = k.Notify(c.pid, c.text)
	case "tick":
		r.err = k.Tick(c.span)
	case "jump":
		k.Jump(c.span)
	}
	return r
}

// readCalls: calls as text: `+a` makes the group a, `-a` removes it, `sa` spawns one in it, `Ta` and `Ka` send all of it signals; `f2` forks 2, `x2` ends it with 7, `d2` lets it die, `t2` and `k2` send it signals, `w2` lets it wait, `n2` lets it notify; `r` reaps, `e` asks for an emptied group, `v` receives; `i5` ticks, `j5` jumps.
func readCalls(text string) []call {
	var calls []call
	for _, word := range strings.Fields(text) {
		c := map[byte]call{
			'+': {word: "make"}, '-': {word: "remove"}, 's': {word: "spawn", text: "c"}, 'T': {word: "killgroup", n: 15}, 'K': {word: "killgroup", n: 9},
			'f': {word: "fork"}, 'x': {word: "exit", n: 7}, 'd': {word: "die"}, 't': {word: "kill", n: 15}, 'k': {word: "kill", n: 9}, 'w': {word: "wait"}, 'n': {word: "notify", text: "m"},
			'r': {word: "reap"}, 'e': {word: "emptied"}, 'v': {word: "receive"}, 'i': {word: "tick"}, 'j': {word: "jump"},
		}[word[0]]
		switch {
		case strings.Contains("+-sTK", word[:1]):
			c.group = word[1:]
		case strings.Contains("ij", word[:1]):
			fmt.Sscan(word[1:], &c.span)
		case !strings.Contains("rev", word[:1]):
			fmt.Sscan(word[1:], &c.pid)
		}
		calls = append(calls, c)
	}
	return calls
}

// build: a kernel with room for so many, wall 100, after calls that are all taken.
func build(t *testing.T, room int, text string) *Kernel {
	t.Helper()
	k := New(room, 100)
	for _, c := range readCalls(text) {
		if r := run(k, c); r.err != 0 {
			t.Fatalf("%s: %v answered %d", text, c, r.err)
		}
	}
	return k
}

// sent: a process with the signals that were sent to it.
type sent struct {
	api.Proc
	term, kill bool
}

func (p sent) String() string {
	s := fmt.Sprintf("%d<%d(%s,%s)", p.Pid, p.Parent, p.Group, p.Cmd)
	if p.term {
		s += "t"
	}
	if p.kill {
		s += "k"
	}
	if p.Zombie || p.Status != 0 {
		s += fmt.Sprintf("z%d", p.Status)
	}
	return s
}

// show: all that is there as text: `2<1(a,c)tk 3<2(a,c)z7; a[2] b[]; 1; 5 105`: processes but 1 with their parents, groups, commands, signals and, if they have ended, statuses; groups with their members; how many datagrams wait; both clocks.
func show(row []sent, groups []string, mail int, mono, wall int64) string {
	var words []string
	for _, p := range row {
		words = append(words, p.String())
	}
	return fmt.Sprintf("%s; %s; %d; %d %d", strings.Join(words, " "), strings.Join(groups, " "), mail, mono, wall)
}

func say(k *Kernel) string {
	var row []sent
	for p := range k.Procs().All() {
		if term, kill := k.Procs().Signals(p.Pid); p.Pid != 1 {
			row = append(row, sent{p, term, kill})
		}
	}
	var groups []string
	for name, members := range k.Groups().All() {
		groups = append(groups, fmt.Sprint(name, members))
	}
	return show(row, groups, k.Ports().Datagrams(), k.Mono(), k.Wall())
}

// model: a kernel by the document's words: a row of processes by number, without process 1; the groups' names, and those that were noted as empty; who is a member follows from the row.
type model struct {
	room, greatest int
	row            []sent
	names, notes   []string
	mail           []api.Datagram
	mono, wall     int64
}

func newModel(room int, wall int64) *model {
	return &model{room: min(max(room, 0), 64), greatest: 1, wall: wall}
}

// members: those whose group it is and who haven't ended.
func (m *model) members(name string) []int {
	pids := []int{}
	for _, p := range m.row {
		if p.Group == name && !p.Zombie {
			pids = append(pids, p.Pid)
		}
	}
	return pids
}

func (m *model) say() string {
	var groups []string
	for _, name := range slices.Sorted(slices.Values(m.names)) {
		groups = append(groups, fmt.Sprint(name, m.members(name)))
	}
	return show(m.row, groups, len(m.mail), m.mono, m.wall)
}

// living: the process of that number, if it isn't 1 and hasn't ended; else nil.
func (m *model) living(pid int) *sent {
	for i, p := range m.row {
		if p.Pid == pid && !p.Zombie {
			return &m.row[i]
		}
	}
	return nil
}

func (m *model) begin(parent int, group, cmd string) reply {
	if len(m.row) >= m.room {
		return reply{err: 81}
	}
	m.greatest++
	m.row = append(m.row, sent{Proc: api.Proc{Pid: m.greatest, Parent: parent, Group: group, Cmd: cmd}})
	return reply{n: m.greatest}
}

func (m *model) fork(pid int) reply {
	p := m.living(pid)
	if p == nil || p.kill {
		return reply{err: 80}
	}
	return m.begin(pid, p.Group, p.Cmd)
}

func (m *model) exit(pid, status int) reply {
	p := m.living(pid)
	if p == nil {
		return reply{err: 80}
	}
	if !(0 <= status && status <= 255 || -64 <= status && status <= -1) {
		status = 255
	}
	p.Zombie, p.Status = true, status
	if len(m.members(p.Group)) == 0 && !slices.Contains(m.notes, p.Group) {
		m.notes = append(m.notes, p.Group)
	}
	for i, child := range m.row {
		if child.Parent == pid {
			m.row[i].Parent = 1
		}
	}
	return reply{}
}

func (m *model) die(pid int) reply {
	if p := m.living(pid); p == nil || !p.kill {
		return reply{err: 80}
	}
	return m.exit(pid, -9)
}

func (m *model) kill(pid, sig int) reply {
	p := m.living(pid)
	if p == nil || sig != 15 && sig != 9 {
		return reply{err: 80}
	}
	p.term = p.term || sig == 15
	p.kill = p.kill || sig == 9
	return reply{}
}

func (m *model) killGroup(group string, sig int) reply {
	n := 0
	for _, pid := range m.members(group) {
		if m.kill(pid, sig).err == 0 {
			n++
		}
	}
	return reply{n: n}
}

func (m *model) reap(parent int) reply {
	for i, p := range m.row {
		if p.Parent == parent && p.Zombie {
			m.row = slices.Delete(m.row, i, i+1)
			return reply{proc: p.Proc}
		}
	}
	return reply{err: 80}
}

func (m *model) wait(parent int) reply {
	if parent == 1 {
		return reply{err: 80}
	}
	return reply{err: m.reap(parent).err}
}

func (m *model) notify(pid int, text string) reply {
	if m.living(pid) == nil {
		return reply{err: 80}
	}
	if len(text) > 200 {
		return reply{err: 100}
	}
	if len(m.mail) == 16 {
		return reply{err: 102}
	}
	m.mail = append(m.mail, api.Datagram{Pid: pid, Text: text})
	return reply{}
}

// sum: span's Add by its words.
func sum(a, b int64) int64 {
	x := new(big.Int).Add(big.NewInt(a), big.NewInt(b))
	if a == math.MaxInt64 || b == math.MaxInt64 || x.Cmp(big.NewInt(math.MaxInt64)) > 0 {
		return math.MaxInt64
	}
	return x.Int64() // it can't be below -2^63, as b isn't below 0
}

func (m *model) tick(n int64) reply {
	if n < 0 {
		return reply{err: 10}
	}
	m.mono, m.wall = sum(m.mono, n), sum(m.wall, n)
	return reply{}
}

// aside: the calls of groups and ports.
func (m *model) aside(c call) reply {
	switch there := slices.Contains(m.names, c.group); c.word {
	case "make":
		if c.group == "" {
			return reply{err: 90}
		}
		if there {
			return reply{err: 91}
		}
		m.names = append(m.names, c.group)
	case "remove":
		if !there {
			return reply{err: 90}
		}
		if len(m.members(c.group)) > 0 {
			return reply{err: 91}
		}
		it := func(name string) bool { return name == c.group }
		m.names, m.notes = slices.DeleteFunc(m.names, it), slices.DeleteFunc(m.notes, it)
	case "emptied":
		for len(m.notes) > 0 {
			name := m.notes[0]
			m.notes = m.notes[1:]
			if len(m.members(name)) == 0 {
				return reply{name: name, yes: true}
			}
		}
	case "receive":
		if len(m.mail) > 0 {
			first := m.mail[0]
			m.mail = m.mail[1:]
			return reply{note: first, yes: true}
		}
	}
	return reply{}
}

func (m *model) run(c call) reply {
	switch c.word {
	case "spawn":
		if !slices.Contains(m.names, c.group) {
			return reply{err: 90}
		}
		return m.begin(1, c.group, c.text)
	case "fork":
		return m.fork(c.pid)
	case "exit":
		return m.exit(c.pid, c.n)
	case "die":
		return m.die(c.pid)
	case "kill":
		return m.kill(c.pid, c.n)
	case "killgroup":
		return m.killGroup(c.group, c.n)
	case "reap":
		return m.reap(1)
	case "wait":
		return m.wait(c.pid)
	case "notify":
		return m.notify(c.pid, c.text)
	case "tick":
		return m.tick(c.span)
	case "jump":
		m.wall = c.span
		return reply{}
	}
	return m.aside(c)
}

// checkHomes: P12.3 of what the kernel tells.
func checkHomes(t *testing.T, k *Kernel, said any) {
	t.Helper()
	homes := map[int][]string{}
	for name, members := range k.Groups().All() {
		for _, pid := range members {
			homes[pid] = append(homes[pid], name)
		}
	}
	for p := range k.Procs().All() {
		of, ok := k.Groups().Of(p.Pid)
		if p.Pid == 1 || p.Zombie {
			if ok || len(homes[p.Pid]) > 0 {
				t.Fatalf("%v: %v is of %q", said, p, homes[p.Pid])
			}
			continue
		}
		if !ok || of != p.Group || !slices.Equal(homes[p.Pid], []string{p.Group}) {
			t.Fatalf("%v: %v is of %q, %q, %v", said, p, homes[p.Pid], of, ok)
		}
		if parent, there := k.Procs().Get(p.Parent); !there || p.Parent != 1 && parent.Group != p.Group {
			t.Fatalf("%v: %v was forked by %v", said, p, parent)
		}
		delete(homes, p.Pid)
	}
	if len(homes) > 0 {
		t.Fatalf("%v: members that aren't there: %v", said, homes)
	}
}

// checkCalls: that a kernel answers calls as its model does; its notes and datagrams at the end, too.
func checkCalls(t *testing.T, room int, wall int64, calls []call) {
	t.Helper()
	k, m := New(room, wall), newModel(room, wall)
	for i, c := range calls {
		before := say(k)
		got, want := run(k, c), m.run(c)
		if got != want {
			t.Fatalf("room %d, %v: answered %v, wanted %v", room, calls[:i+1], got, want)
		}
		if got.err != 0 && say(k) != before {
			t.Fatalf("room %d, %v: it erred, and\n%s became\n%s", room, calls[:i+1], before, say(k))
		}
		if say(k) != m.say() {
			t.Fatalf("room %d, %v: it is\n%s, wanted\n%s", room, calls[:i+1], say(k), m.say())
		}
		checkHomes(t, k, calls[:i+1])
	}
	checkDrained(t, k, m, calls)
}

// checkDrained: that the notes and datagrams that are left come as by the model.
func checkDrained(t *testing.T, k *Kernel, m *model, said any) {
	t.Helper()
	for _, word := range []string{"emptied", "receive"} {
		for more := true; more; {
			got, want := run(k, call{word: word}), m.run(call{word: word})
			if got != want {
				t.Fatalf("%v: then %s answered %v, wanted %v", said, word, got, want)
			}
			more = got.yes
		}
	}
}
