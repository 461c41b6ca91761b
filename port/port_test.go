package port

import (
	"fmt"
	"math"
	"math/rand"
	"runtime"
	"slices"
	"strings"
	"testing"

	"reveille/api"
)

// text: of so many bytes.
func text(bytes int) string { return strings.Repeat("x", bytes) }

func names(p *Ports) []string { return slices.Collect(p.Listening()) }

// say: sockets and what waits at them as text: `a[{1 x}] b[] 0`; the number is that of the datagrams.
func say(p *Ports) string {
	words := []string{}
	for name := range p.Listening() {
		words = append(words, fmt.Sprint(name, p.Waiting(name)))
	}
	return strings.Join(append(words, fmt.Sprint(p.Datagrams())), " ")
}

// drain: what Receive tells until it tells nothing more, as text.
func drain(t *testing.T, p *Ports) string {
	t.Helper()
	var words []string
	for left := p.Datagrams(); ; left-- {
		if p.Datagrams() != left {
			t.Fatalf("%d wait, wanted %d", p.Datagrams(), left)
		}
		d, ok := p.Receive()
		if !ok {
			if d != (api.Datagram{}) || left != 0 {
				t.Fatalf("Receive: %v, false; %d were left", d, left)
			}
			return strings.Join(words, " ")
		}
		words = append(words, fmt.Sprint(d.Pid, d.Text))
	}
}

// call: of ports: its word, its number, its name, its text.
type call struct {
	word string
	pid  int
	name string
	text string
}

// reply: what a call answered; what it has no result for is zero.
type reply struct {
	err  api.Errno
	id   int
	conn api.Conn
	gram api.Datagram
	yes  bool
}

func run(p *Ports, c call) reply {
	var r reply
	switch c.word {
	case "listen":
		r.err = p.Listen(c.name)
	case "close":
		r.err = p.Close(c.name)
	case "connect":
		r.id, r.err = p.Connect(c.name, c.text)
	case "accept":
		r.conn, r.err = p.Accept(c.name)
	case "send":
		r.err = p.Send(c.pid, c.text)
	case "receive":
		r.gram, r.yes = p.Receive()
	}
	return r
}

// model: ports by the document's words: names, all connections that wait, whichever socket they wait at, and datagrams.
type model struct {
	names []string
	at    []string
	conns []api.Conn
	count int
	grams []api.Datagram
}

func (m *model) there(name string) bool { return slices.Contains(m.names, name) }

func (m *model) waiting(name string) []api.Conn {
	var l []api.Conn
	for i, c := range m.conns {
		if m.at[i] == name {
			l = append(l, c)
		}
	}
	return l
}

func (m *model) drop(i int) {
	m.conns = slices.Delete(m.conns, i, i+1)
	m.at = slices.Delete(m.at, i, i+1)
}

func (m *model) listen(name string) reply {
	if name == "" {
		return reply{err: 100}
	}
	if m.there(name) {
		return reply{err: 101}
	}
	m.names = append(m.names, name)
	return reply{}
}

func (m *model) close(name string) reply {
	if !m.there(name) {
		return reply{err: 100}
	}
	m.names = slices.DeleteFunc(m.names, func(x string) bool { return x == name })
	for i := slices.Index(m.at, name); i >= 0; i = slices.Index(m.at, name) {
		m.drop(i)
	}
	return reply{}
}

func (m *model) connect(name, text string) reply {
	if !m.there(name) || len(text) > 200 {
		return reply{err: 100}
	}
	if len(m.waiting(name)) == 16 {
		return reply{err: 102}
	}
	m.count++
	m.conns = append(m.conns, api.Conn{Id: m.count, Text: text})
	m.at = append(m.at, name)
	return reply{id: m.count}
}

func (m *model) accept(name string) reply {
	i := slices.Index(m.at, name)
	if i < 0 {
		return reply{err: 100}
	}
	first := m.conns[i]
	m.drop(i)
	return reply{conn: first}
}

func (m *model) send(pid int, text string) reply {
	if len(text) > 200 {
		return reply{err: 100}
	}
	if len(m.grams) == 16 {
		return reply{err: 102}
	}
	m.grams = append(m.grams, api.Datagram{Pid: pid, Text: text})
	return reply{}
}

func (m *model) receive() reply {
	if len(m.grams) == 0 {
		return reply{}
	}
	first := m.grams[0]
	m.grams = m.grams[1:]
	return reply{gram: first, yes: true}
}

func (m *model) run(c call) reply {
	switch c.word {
	case "listen":
		return m.listen(c.name)
	case "close":
		return m.close(c.name)
	case "connect":
		return m.connect(c.name, c.text)
	case "accept":
		return m.accept(c.name)
	case "send":
		return m.send(c.pid, c.text)
	}
	return m.receive()
}

// check: that ports hold what their model does: the same from Listening, from Waiting and from Datagrams.
func check(t *testing.T, p *Ports, m *model, said any) {
	t.Helper()
	sorted := slices.Sorted(slices.Values(m.names))
	if got := names(p); !slices.Equal(got, sorted) {
		t.Fatalf("%v: %q listen, wanted %q", said, got, sorted)
	}
	for _, name := range append(sorted, "", "a", "b", "none") {
		if got, want := p.Waiting(name), m.waiting(name); !slices.Equal(got, want) {
			t.Fatalf("%v: at %q wait %v, wanted %v", said, name, got, want)
		}
	}
	if p.Datagrams() != len(m.grams) {
		t.Fatalf("%v: %d datagrams, wanted %d", said, p.Datagrams(), len(m.grams))
	}
}

// checkDrained: that what is left comes as by the model, which is at its end then.
func checkDrained(t *testing.T, p *Ports, m *model, said any) {
	t.Helper()
	rest := []call{{word: "receive"}}
	for _, name := range m.names {
		rest = append(rest, call{word: "accept", name: name})
	}
	for _, c := range rest {
		for {
			got, want := run(p, c), m.run(c)
			if got != want {
				t.Fatalf("%v: then %v answered %v, wanted %v", said, c, got, want)
			}
			if !got.yes && got.conn.Id == 0 {
				break
			}
		}
	}
}

// checkCalls: that ports answer calls as their model does.
func checkCalls(t *testing.T, calls []call) {
	t.Helper()
	p, m := New(), &model{}
	for i, c := range calls {
		before := say(p)
		got, want := run(p, c), m.run(c)
		if got != want {
			t.Fatalf("%v: answered %v, wanted %v", calls[:i+1], got, want)
		}
		if got.err != 0 && say(p) != before {
			t.Fatalf("%v: it erred and changed the ports", calls[:i+1])
		}
		check(t, p, m, calls[:i+1])
	}
	checkDrained(t, p, m, calls)
}

// readCalls: calls as text: `+a` listens at a, `-a` closes it, `>a` and `>ax` connect to it with the text that is behind its name, `<a` accepts there, `!7x` sends x from 7, `?` receives.
func readCalls(text string) []call {
	var calls []call
	words := map[byte]string{'+': "listen", '-': "close", '>': "connect", '<': "accept", '!': "send", '?': "receive"}
	for _, s := range strings.Fields(text) {
		c := call{word: words[s[0]]}
		switch {
		case s[0] == '!':
			c.pid, c.text = int(s[1]-'0'), s[2:]
		case s[0] != '?':
			c.name, c.text = s[1:2], s[2:]
		}
		calls = append(calls, c)
	}
	return calls
}

// build: ports after calls that are all taken.
func build(t *testing.T, text string) *Ports {
	t.Helper()
	p := New()
	for _, c := range readCalls(text) {
		if r := run(p, c); r.err != 0 || !r.yes && c.word == "receive" {
			t.Fatalf("%s: %v answered %v", text, c, r)
		}
	}
	return p
}

// fill: a socket is full after it, or the datagrams are.
func fill(t *testing.T, p *Ports, c call) {
	t.Helper()
	for range 16 {
		if r := run(p, c); r.err != 0 {
			t.Fatalf("%v: %d", c, r.err)
		}
	}
}

// someTexts: that may be sent.
func someTexts() []string {
	return []string{"", "x", " ", "\x00", "\xff\xfe", "ä", "a\nb", text(199), text(200), strings.Repeat("ä", 100), strings.Repeat("\x00", 200)}
}

// longTexts: that may not.
func longTexts() []string {
	return []string{text(201), text(202), text(400), text(100000), strings.Repeat("ä", 101), strings.Repeat("\x00", 201), strings.Repeat("ä", 200)}
}

func TestNewHasNothing(t *testing.T) { // P10.1, P10.2
	p := New()
	if got := say(p); got != "0" || drain(t, p) != "" || len(p.Waiting("a"))+len(p.Waiting("")) != 0 {
		t.Errorf("New: %s", got)
	}
	for _, name := range []string{"", "a", " "} {
		if id, err := p.Connect(name, "x"); id != 0 || err != 100 {
			t.Errorf("Connect(%q): %d, %d", name, id, err)
		}
		if c, err := p.Accept(name); c != (api.Conn{}) || err != 100 || p.Close(name) != 100 {
			t.Errorf("Accept(%q): %v, %d", name, c, err)
		}
	}
}

func TestExample(t *testing.T) { // P10.1: the chapter's
	p := New()
	if err := p.Listen("a"); err != 0 {
		t.Error(err)
	}
	if id, err := p.Connect("a", "x"); id != 1 || err != 0 {
		t.Errorf("%d, %d", id, err)
	}
	if c, err := p.Accept("a"); c != (api.Conn{Id: 1, Text: "x"}) || err != 0 {
		t.Errorf("%v, %d", c, err)
	}
}

func TestListen(t *testing.T) { // P10.1
	p := New()
	all := []string{"a", " ", "\x00", "\xff", "a\x00", "a.socket", "/run/a", "ä", text(61), text(201), text(100000)}
	for _, name := range all {
		if err := p.Listen(name); err != 0 || len(p.Waiting(name)) != 0 {
			t.Errorf("Listen(%.20q): %d, %v", name, err, p.Waiting(name))
		}
	}
	for i, name := range all {
		if id, err := p.Connect(name, "x"); id != i+1 || err != 0 {
			t.Errorf("Connect(%.20q): %d, %d", name, id, err)
		}
	}
	if got := names(p); len(got) != len(all) {
		t.Errorf("%d of %d", len(got), len(all))
	}
}

func TestListenIsRefused(t *testing.T) { // P10.1
	p := build(t, "+a +b +c >ax >ay -c")
	for range 2 {
		for name, want := range map[string]api.Errno{"": 100, "a": 101, "b": 101} {
			if err := p.Listen(name); err != want {
				t.Errorf("Listen(%q): %d, wanted %d", name, err, want)
			}
		}
	}
	if got := say(p); got != "a[{1 x} {2 y}] b[] 0" { // what waits at a waits still
		t.Error(got)
	}
}

func TestClose(t *testing.T) { // P10.1, P10.3
	for _, row := range []struct{ calls, want string }{
		{"+a -a", "0"},
		{"+a >ax -a", "0"},
		{"+a +b >ax >by -a", "b[{2 y}] 0"},
		{"+a +b >ax >by -b", "a[{1 x}] 0"},
		{"+a -a +a", "a[] 0"},
		{"+a >ax -a +a", "a[] 0"},                    // what waited is gone
		{"+a >ax >ay -a +a >az", "a[{3 z}] 0"},       // and its Ids don't come again
		{"+a >ax -a +b >by", "b[{2 y}] 0"},           // nor at another one
		{"+a >ax -a +a >ay -a +a >az", "a[{3 z}] 0"}, // nor later on
		{"+a >ax !7m -a", "1"},                       // datagrams are of no socket
		{"+a +b >a1 >b2 >a3 >b4 -a", "b[{2 2} {4 4}] 0"},
	} {
		p := build(t, row.calls)
		if got := say(p); got != row.want {
			t.Errorf("%s: %s, wanted %s", row.calls, got, row.want)
		}
	}
}

func TestCloseIsRefused(t *testing.T) { // P10.1
	p := build(t, "+a +b >ax -b")
	for _, name := range []string{"", "b", "c", "A", "a ", "a\x00", "aa"} {
		if err := p.Close(name); err != 100 {
			t.Errorf("Close(%q): %d", name, err)
		}
	}
	if got := say(p); got != "a[{1 x}] 0" {
		t.Error(got)
	}
}

func TestClosedSocketTakesNothing(t *testing.T) { // P10.1, P10.3
	p := build(t, "+a >ax >ay <a -a")
	if id, err := p.Connect("a", "z"); id != 0 || err != 100 {
		t.Errorf("Connect: %d, %d", id, err)
	}
	if c, err := p.Accept("a"); c != (api.Conn{}) || err != 100 {
		t.Errorf("Accept: %v, %d", c, err)
	}
	if len(p.Waiting("a")) != 0 {
		t.Error(p.Waiting("a"))
	}
	p.Listen("a")
	if c, err := p.Accept("a"); c != (api.Conn{}) || err != 100 {
		t.Errorf("Accept, once it listens again: %v, %d", c, err)
	}
}

func TestConnect(t *testing.T) { // P10.1
	p := build(t, "+a +b")
	for i, s := range someTexts() {
		id, err := p.Connect("a", s)
		other, bad := p.Connect("b", s)
		if id != 2*i+1 || err != 0 || other != 2*i+2 || bad != 0 {
			t.Errorf("%.20q: %d, %d, %d, %d", s, id, err, other, bad)
		}
	}
	for i, s := range someTexts() {
		c, err := p.Accept("a")
		other, bad := p.Accept("b")
		if c != (api.Conn{Id: 2*i + 1, Text: s}) || err != 0 || other != (api.Conn{Id: 2*i + 2, Text: s}) || bad != 0 {
			t.Errorf("%.20q: %v, %d, %v, %d", s, c, err, other, bad)
		}
	}
}

func TestConnectIsRefused(t *testing.T) { // P10.1
	p := build(t, "+a +b +c -c >ax")
	for _, name := range []string{"", "c", "d", "A", "a ", "a\x00", "aa"} {
		for _, s := range append(someTexts(), longTexts()...) {
			if id, err := p.Connect(name, s); id != 0 || err != 100 {
				t.Errorf("Connect(%q, %.20q): %d, %d", name, s, id, err)
			}
		}
	}
	for _, s := range longTexts() {
		if id, err := p.Connect("a", s); id != 0 || err != 100 {
			t.Errorf("Connect(a, %.20q): %d, %d", s, id, err)
		}
	}
	if got := say(p); got != "a[{1 x}] b[] 0" {
		t.Error(got)
	}
	if id, err := p.Connect("b", "y"); id != 2 || err != 0 { // those that were refused have no Ids
		t.Errorf("%d, %d", id, err)
	}
}

func TestSocketIsFull(t *testing.T) { // P10.1
	p := build(t, "+a +b")
	fill(t, p, call{word: "connect", name: "a", text: "x"})
	before := say(p)
	for range 3 {
		if id, err := p.Connect("a", text(200)); id != 0 || err != 102 {
			t.Errorf("full: %d, %d", id, err)
		}
	}
	for _, s := range longTexts() { // of both errors the first one is told
		if id, err := p.Connect("a", s); id != 0 || err != 100 {
			t.Errorf("full, and too long: %d, %d", id, err)
		}
	}
	if say(p) != before || len(p.Waiting("a")) != 16 {
		t.Errorf("%s became %s", before, say(p))
	}
	if id, err := p.Connect("b", "y"); id != 17 || err != 0 { // each socket has room of its own
		t.Errorf("b: %d, %d", id, err)
	}
	if c, err := p.Accept("a"); c != (api.Conn{Id: 1, Text: "x"}) || err != 0 {
		t.Errorf("Accept: %v, %d", c, err)
	}
	if id, err := p.Connect("a", "z"); id != 18 || err != 0 { // room for one
		t.Errorf("a: %d, %d", id, err)
	}
	if id, err := p.Connect("a", ""); id != 0 || err != 102 {
		t.Errorf("full again: %d, %d", id, err)
	}
}

func TestFullSocketIsClosed(t *testing.T) { // P10.1
	p := build(t, "+a +b")
	c := call{word: "connect", name: "a"}
	fill(t, p, c)
	p.Close("a")
	p.Listen("a")
	fill(t, p, c)
	if got := p.Waiting("a"); len(got) != 16 || got[0].Id != 17 || got[15].Id != 32 {
		t.Error(got)
	}
	if r := run(p, c); r.err != 102 {
		t.Error(r)
	}
	fill(t, p, call{word: "connect", name: "b"})
}

func TestFullSocketsLeaveRoomForDatagrams(t *testing.T) { // P10.1, P10.2
	p := build(t, "+a")
	fill(t, p, call{word: "connect", name: "a"})
	fill(t, p, call{word: "send", text: "m"})
	if id, err := p.Connect("a", ""); id != 0 || err != 102 || p.Send(1, "") != 102 {
		t.Errorf("%d, %d", id, err)
	}
	p.Receive()
	if _, err := p.Connect("a", ""); err != 102 {
		t.Error(err)
	}
	p.Accept("a")
	if p.Send(1, "") != 0 || p.Send(1, "") != 102 {
		t.Error(say(p))
	}
}

func TestAccept(t *testing.T) { // P10.1, P10.3
	p := build(t, "+a +b >ax >by >az >bx")
	for _, row := range []struct{ name, want, left string }{
		{"a", "{1 x} 0", "a[{3 z}] b[{2 y} {4 x}] 0"},
		{"b", "{2 y} 0", "a[{3 z}] b[{4 x}] 0"},
		{"b", "{4 x} 0", "a[{3 z}] b[] 0"},
		{"b", "{0 } 100", "a[{3 z}] b[] 0"},
		{"c", "{0 } 100", "a[{3 z}] b[] 0"},
		{"", "{0 } 100", "a[{3 z}] b[] 0"},
		{"a", "{3 z} 0", "a[] b[] 0"},
		{"a", "{0 } 100", "a[] b[] 0"},
		{"a", "{0 } 100", "a[] b[] 0"},
	} {
		c, err := p.Accept(row.name)
		if got := fmt.Sprint(c, int(err)); got != row.want || say(p) != row.left {
			t.Errorf("Accept(%q): %s, %s, wanted %s, %s", row.name, got, say(p), row.want, row.left)
		}
	}
	if id, err := p.Connect("a", "n"); id != 5 || err != 0 { // Ids don't come again
		t.Errorf("%d, %d", id, err)
	}
}

func TestWaiting(t *testing.T) { // P10.1
	p := build(t, "+a +b +c >bx >az >by >ba <b -c")
	for name, want := range map[string]string{"a": "[{2 z}]", "b": "[{3 y} {4 a}]", "c": "[]", "d": "[]", "": "[]", "A": "[]"} {
		if got := fmt.Sprint(p.Waiting(name)); got != want {
			t.Errorf("Waiting(%q): %s, wanted %s", name, got, want)
		}
	}
}

func TestListeningIsByName(t *testing.T) { // P10.1
	want := []string{"\x00", " ", "-", "10", "2", "A", "B", "a", "a\x00", "a ", "a.", "aa", "ab", "b", "z", "\x7f", "\x80", "ä", "\xff", "\xff\xff"}
	p := New()
	for _, i := range rand.New(rand.NewSource(1)).Perm(len(want)) {
		p.Listen(want[i])
	}
	for range 20 { // a map would show its order sooner or later
		if got := names(p); !slices.Equal(got, want) {
			t.Fatalf("%q", got)
		}
	}
}

func TestListeningIsLeftAndGoneThroughAgain(t *testing.T) { // P10.1
	p := build(t, "+d +b +a +c >ax")
	want := []string{"a", "b", "c", "d"}
	all := p.Listening()
	for most := range len(want) {
		var got []string
		for name := range all {
			got = append(got, name)
			if len(got) > most {
				break
			}
		}
		if !slices.Equal(got, want[:most+1]) {
			t.Errorf("left at %d: %v", most, got)
		}
	}
	seen := 0
	for name := range all {
		if got := slices.Collect(all); name != want[seen] || !slices.Equal(got, want) {
			t.Errorf("within another: %q, %v", name, got)
		}
		seen++
	}
	if seen != len(want) {
		t.Errorf("%d of %d", seen, len(want))
	}
}

func TestListeningGivesWhatListensThen(t *testing.T) { // P10.1
	p := New()
	all := p.Listening()
	for i, want := range []string{"[b]", "[a b]", "[a b]", "[a b]", "[a b]", "[b]", "[a b]", "[a]", "[]"} {
		run(p, readCalls("+b +a >a <a +b -a +a -b -a")[i])
		if got := fmt.Sprint(slices.Collect(all)); got != want {
			t.Errorf("%d: %s, wanted %s", i, got, want)
		}
	}
}

func TestSendAndReceive(t *testing.T) { // P10.2, P10.3
	for _, row := range []struct{ calls, want string }{
		{"", ""},
		{"!7x", "7x"},
		{"!7x !7x !7x", "7x 7x 7x"}, // like ones are as many
		{"!9a !1b !5c", "9a 1b 5c"}, // by when, not by number
		{"!9a !1b ? !5c", "1b 5c"},
		{"!9a ? !1b ? !5c ?", ""},
		{"+a >ax !7m <a -a", "7m"},
	} {
		p := build(t, row.calls)
		if got := drain(t, p); got != row.want {
			t.Errorf("%s: %s, wanted %s", row.calls, got, row.want)
		}
	}
}

func TestSendTakesAllNumbersAndTexts(t *testing.T) { // P10.2
	p := New()
	pids := []int{math.MinInt, math.MinInt32, -1, 0, 1, 2, 65, math.MaxInt32, 1 << 32, 1<<32 + 7, math.MaxInt - 1, math.MaxInt}
	for _, pid := range pids {
		for _, s := range someTexts() {
			if err := p.Send(pid, s); err != 0 || p.Datagrams() != 1 {
				t.Errorf("Send(%d, %.20q): %d, %d", pid, s, err, p.Datagrams())
			}
			if d, ok := p.Receive(); d != (api.Datagram{Pid: pid, Text: s}) || !ok || p.Datagrams() != 0 {
				t.Errorf("Send(%d, %.20q): %v, %v, %d", pid, s, d, ok, p.Datagrams())
			}
		}
	}
}

func TestSendIsRefused(t *testing.T) { // P10.2
	p := build(t, "!7x")
	for _, s := range longTexts() {
		if err := p.Send(2, s); err != 100 || p.Datagrams() != 1 {
			t.Errorf("Send(%.20q): %d, %d", s, err, p.Datagrams())
		}
	}
	if got := drain(t, p); got != "7x" {
		t.Error(got)
	}
}

func TestDatagramsAreFull(t *testing.T) { // P10.2
	p := New()
	for i := range 16 {
		if err := p.Send(i, "x"); err != 0 || p.Datagrams() != i+1 {
			t.Errorf("%d: %d, %d", i, err, p.Datagrams())
		}
	}
	for range 3 {
		if err := p.Send(16, text(200)); err != 102 || p.Datagrams() != 16 {
			t.Errorf("full: %d, %d", err, p.Datagrams())
		}
	}
	for _, s := range longTexts() { // of both errors the first one is told
		if err := p.Send(16, s); err != 100 || p.Datagrams() != 16 {
			t.Errorf("full, and too long: %d, %d", err, p.Datagrams())
		}
	}
	if d, ok := p.Receive(); d != (api.Datagram{Text: "x"}) || !ok || p.Datagrams() != 15 {
		t.Errorf("%v, %v, %d", d, ok, p.Datagrams())
	}
	if a, b := p.Send(17, "y"), p.Send(18, "z"); a != 0 || b != 102 { // room for one
		t.Errorf("%d, %d", a, b)
	}
	if got := drain(t, p); got != "1x 2x 3x 4x 5x 6x 7x 8x 9x 10x 11x 12x 13x 14x 15x 17y" {
		t.Error(got)
	}
}

func TestReceiveOfNothing(t *testing.T) { // P10.2
	p := build(t, "+a >ax !7x ?")
	for range 3 {
		if d, ok := p.Receive(); d != (api.Datagram{}) || ok || p.Datagrams() != 0 {
			t.Errorf("%v, %v, %d", d, ok, p.Datagrams())
		}
	}
	if got := say(p); got != "a[{1 x}] 0" {
		t.Error(got)
	}
}

func TestAllComesOnceInOrder(t *testing.T) { // P10.3
	const count = 20000
	r := rand.New(rand.NewSource(2))
	p := build(t, "+a +b +c")
	place := []string{"a", "b", "c"}
	home := map[int]string{} // by Id: where it waits
	last := map[string]int{} // by name: the Id that came last
	sent, got, accepted := 0, 0, 0
	for range count {
		name := place[r.Intn(len(place))]
		switch r.Intn(4) {
		case 0:
			if id, err := p.Connect(name, name); err == 0 {
				home[id] = name
			}
		case 1:
			if c, err := p.Accept(name); err == 0 {
				if home[c.Id] != name || c.Text != name || c.Id <= last[name] {
					t.Fatalf("%v behind %d came at %q, wanted %q", c, last[name], name, home[c.Id])
				}
				delete(home, c.Id)
				last[name] = c.Id
				accepted++
			}
		case 2:
			if p.Send(sent+1, fmt.Sprint(sent+1)) == 0 {
				sent++
			}
		default:
			if d, ok := p.Receive(); ok {
				got++
				if d.Pid != got || d.Text != fmt.Sprint(got) {
					t.Fatalf("%v came as number %d", d, got)
				}
			}
		}
	}
	left := 0
	for _, name := range place {
		for _, c := range p.Waiting(name) {
			if home[c.Id] != name {
				t.Errorf("%v waits at %q, wanted %q", c, name, home[c.Id])
			}
			left++
		}
	}
	if left != len(home) || p.Datagrams() != sent-got || accepted < 1000 || got < 1000 {
		t.Errorf("%d of %d connections wait, %d of %d - %d datagrams; %d were accepted", left, len(home), p.Datagrams(), sent, got, accepted)
	}
}

func TestReadingChangesNothing(t *testing.T) { // P10.1, P10.2
	p := build(t, "+a +b >ax >ay >bz !7m !8n")
	before := say(p)
	for range 3 {
		for _, name := range []string{"", "a", "b", "c"} {
			p.Waiting(name)
		}
		for range p.Listening() {
			break
		}
		p.Datagrams()
	}
	if say(p) != before || drain(t, p) != "7m 8n" {
		t.Errorf("%s became %s", before, say(p))
	}
}

// spoil: all of a list's memory is overwritten, its spare room too.
func spoil(l []api.Conn) {
	l = l[:cap(l)]
	for i := range l {
		l[i] = api.Conn{Id: -7, Text: "spoilt"}
	}
}

func TestAnswersAreNewMemory(t *testing.T) { // P10.1
	for most := range 17 {
		p := build(t, "+a >a1 >a2 <a <a")
		for range most {
			p.Connect("a", "x")
		}
		kept := p.Waiting("a")
		before := fmt.Sprint(kept)
		spoil(p.Waiting("a"))
		if fmt.Sprint(kept) != before || fmt.Sprint(p.Waiting("a")) != before {
			t.Errorf("%s became %v, %v", before, kept, p.Waiting("a"))
		}
		p.Accept("a")
		p.Connect("a", "y")
		if fmt.Sprint(kept) != before {
			t.Errorf("%s became %v", before, kept)
		}
		now := fmt.Sprint(p.Waiting("a"))
		spoil(kept)
		p.Connect("a", "z")
		p.Accept("a")
		if got := p.Waiting("a"); slices.Contains(got, api.Conn{Id: -7, Text: "spoilt"}) {
			t.Errorf("%s became %v", now, got)
		}
	}
}

func TestPortsAreApart(t *testing.T) { // P10.1, P10.2
	p, q := build(t, "+a >ax >ay !7m"), build(t, "+b")
	if id, err := q.Connect("b", "z"); id != 1 || err != 0 {
		t.Errorf("%d, %d", id, err)
	}
	if _, err := q.Connect("a", "z"); err != 100 || q.Listen("a") != 0 {
		t.Error(err)
	}
	if got, other := say(p), say(q); got != "a[{1 x} {2 y}] 1" || other != "a[] b[{1 z}] 0" {
		t.Errorf("%s, %s", got, other)
	}
}

func TestZeroPortsAreNew(t *testing.T) { // P10.1, P10.2: no call panics
	var p Ports
	id, err := p.Connect("a", "x")
	c, bad := p.Accept("a")
	if id != 0 || err != 100 || c != (api.Conn{}) || bad != 100 || p.Close("a") != 100 || p.Listen("") != 100 || say(&p) != "0" || drain(t, &p) != "" || len(p.Waiting("a")) != 0 {
		t.Error(say(&p))
	}
	if p.Listen("a") != 0 || p.Listen("b") != 0 || p.Listen("a") != 101 || p.Send(7, "m") != 0 {
		t.Error(say(&p))
	}
	if id, err := p.Connect("b", "x"); id != 1 || err != 0 || say(&p) != "a[] b[{1 x}] 1" || drain(t, &p) != "7m" {
		t.Errorf("%d, %d, %s", id, err, say(&p))
	}
}

// heap: how much is held.
func heap() uint64 {
	runtime.GC()
	var m runtime.MemStats
	runtime.ReadMemStats(&m)
	return m.HeapAlloc
}

func TestWhatCameIsNotKept(t *testing.T) { // P10.3: it waits no more, and what is kept is what waits
	const count = 3000
	p := New()
	before := heap()
	for i := range count {
		name := fmt.Sprint("s", i)
		p.Listen(name)
		for range 16 {
			p.Connect(name, text(200))
		}
		for range 16 {
			p.Accept(name)
		}
	}
	if after := heap(); after > before+count*16*100 { // the texts alone would be twice that
		t.Errorf("%d bytes became %d", before, after)
	}
	if len(names(p)) != count {
		t.Error(len(names(p)))
	}
}

func TestManySockets(t *testing.T) { // P10.1, P10.3
	const count = 3000
	p := New()
	name := func(i int) string { return fmt.Sprintf("s%05d", i) }
	for _, i := range rand.New(rand.NewSource(3)).Perm(count) {
		p.Listen(name(i))
	}
	for i := range 4 * count {
		if id, err := p.Connect(name(i%count), fmt.Sprint(i)); id != i+1 || err != 0 {
			t.Fatalf("%d: %d, %d", i, id, err)
		}
	}
	for i := range count {
		if i%3 == 0 {
			p.Close(name(i))
		}
	}
	for i := range 4 * count {
		c, err := p.Accept(name(i % count))
		if i%count%3 == 0 && err == 100 {
			continue
		}
		if c != (api.Conn{Id: i + 1, Text: fmt.Sprint(i)}) || err != 0 {
			t.Fatalf("%d: %v, %d", i, c, err)
		}
	}
	if got := names(p); len(got) != count-count/3 || !slices.IsSorted(got) {
		t.Errorf("%d listen", len(got))
	}
}

// each: all rows of just so many of the calls.
func each(calls []call, length int, do func([]call)) {
	row := make([]call, length)
	var fill func(int)
	fill = func(i int) {
		if i == length {
			do(row)
			return
		}
		for _, c := range calls {
			row[i] = c
			fill(i + 1)
		}
	}
	fill(0)
}

func TestAllShortRowsOfCalls(t *testing.T) { // P10.1, P10.2, P10.3
	for _, part := range []struct {
		first, calls string
		most         int
	}{
		{"", "+a +b -a -b >ax >by <a <b", 5},
		{"+a +b", ">ax >ay >bx <a <b -a +a", 6},
		{"+a" + strings.Repeat(" >ax", 14), ">ay >az <a -a +a", 6},
		{"", "!7x !8y ?", 8},
		{strings.Repeat(" !7x", 14), "!8y !9z ?", 8},
		{"+a >ax !7x", ">ay <a !8y ?", 6},
	} {
		first := readCalls(part.first)
		for length := range part.most + 1 {
			each(readCalls(part.calls), length, func(row []call) {
				p, m := New(), &model{}
				for _, c := range slices.Concat(first, row) {
					if got, want := run(p, c), m.run(c); got != want {
						t.Fatalf("%s, %v: %v answered %v, wanted %v", part.first, row, c, got, want)
					}
				}
				check(t, p, m, row)
				checkDrained(t, p, m, row)
			})
		}
	}
}

// randomCall: of few names, mostly with short texts.
func randomCall(r *rand.Rand, names []string) call {
	words := []string{"listen", "listen", "close", "connect", "connect", "connect", "connect", "connect", "accept", "accept", "accept", "send", "send", "send", "receive", "receive"}
	c := call{word: words[r.Intn(len(words))], pid: r.Intn(9) - 2, name: names[r.Intn(len(names))], text: text(r.Intn(3))}
	if r.Intn(8) == 0 {
		c.text = text(199 + r.Intn(3))
	}
	if c.word == "close" && r.Intn(5) > 0 { // so that connections wait
		c.word = "listen"
	}
	return c
}

func TestCallsAgainstWords(t *testing.T) { // P10.1, P10.2, P10.3
	names := []string{"a", "b", "aa", "", "\xff", "a\x00"}
	for seed := range 300 {
		r := rand.New(rand.NewSource(int64(seed)))
		var calls []call
		for range 80 {
			calls = append(calls, randomCall(r, names[:1+seed%6]))
		}
		checkCalls(t, calls)
	}
}

func TestManyCallsAgainstWords(t *testing.T) { // P10.1, P10.2, P10.3
	r := rand.New(rand.NewSource(5))
	names := []string{"a", "b", "c", "d", "e", ""}
	p, m := New(), &model{}
	errs := map[api.Errno]int{}
	for i := range 30000 {
		c := randomCall(r, names)
		if (c.word == "accept" || c.word == "receive") && r.Intn(3) == 0 { // so that there is no room now and then
			continue
		}
		got, want := run(p, c), m.run(c)
		if got != want {
			t.Fatalf("call %d, %v: answered %v, wanted %v", i, c, got, want)
		}
		errs[got.err]++
		check(t, p, m, i)
	}
	checkDrained(t, p, m, "at the end")
	if errs[0] < 1000 || errs[100] < 1000 || errs[101] < 1000 || errs[102] < 1000 {
		t.Errorf("%v: too few of one", errs)
	}
}

func FuzzCalls(f *testing.F) { // P10.1, P10.2, P10.3
	f.Add([]byte("\x00a\x00\x02a\x01\x02a\x02\x03a\x00\x01a\x00\x03a\x00"))
	f.Add([]byte("\x04\x01\x00\x04\x02\xc8\x04\x03\xc9\x05\x00\x00\x05\x00\x00"))
	f.Fuzz(func(t *testing.T, bytes []byte) {
		words := []string{"listen", "close", "connect", "accept", "send", "receive"}
		var calls []call
		for ; len(bytes) >= 3 && len(calls) < 150; bytes = bytes[3:] {
			c := call{word: words[int(bytes[0])%len(words)], pid: int(int8(bytes[1])), name: string(bytes[1:2]), text: text(int(bytes[2]))}
			if bytes[1] == 0 {
				c.name = ""
			}
			calls = append(calls, c)
		}
		checkCalls(t, calls)
	})
}
