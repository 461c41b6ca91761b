package kern

import (
	"fmt"
	"math"
	"math/rand"
	"slices"
	"strings"
	"testing"

	"reveille/api"
)

// strangers: numbers that no process has that can end.
func strangers() []int {
	return []int{math.MinInt, math.MinInt32, -2, -1, 0, 1, 99, math.MaxInt32, 1<<32 + 2, 1<<32 + 3, math.MaxInt}
}

// clocks: times at and around the bounds.
func clocks() []int64 {
	return []int64{math.MinInt64, math.MinInt64 + 1, math.MinInt32 - 1, -7, -1, 0, 1, 5, 100, math.MaxInt32 + 1, 1 << 62, math.MaxInt64 - 2, math.MaxInt64 - 1, math.MaxInt64}
}

func TestExample(t *testing.T) { // P12.1, P12.3: the document's own
	k := New(5, 0)
	k.Groups().Make("a")
	first, err := k.Spawn("a", "x")
	second, bad := k.Fork(2)
	if first != 2 || err != 0 || second != 3 || bad != 0 || k.KillGroup("a", api.SigKill) != 2 || k.Die(2) != 0 {
		t.Errorf("%d, %d, %d, %d, %s", first, err, second, bad, say(k))
	}
	if name, ok := k.Groups().Emptied(); ok {
		t.Errorf("%q is emptied ahead of its last member's end", name)
	}
	if k.Die(3) != 0 {
		t.Error(say(k))
	}
	if name, ok := k.Groups().Emptied(); name != "a" || !ok {
		t.Errorf("%q, %v", name, ok)
	}
}

func TestNew(t *testing.T) { // P12.1
	for _, wall := range clocks() {
		k := New(3, wall)
		if got, want := say(k), fmt.Sprintf("; ; 0; 0 %d", wall); got != want {
			t.Errorf("%s, wanted %s", got, want)
		}
		if p, there := k.Procs().Get(1); p != (api.Proc{Pid: 1}) || !there || k.Procs().Len() != 0 {
			t.Errorf("%v, %v", p, there)
		}
		for name := range k.Ports().Listening() {
			t.Errorf("%q listens", name)
		}
		for path, folder := range k.Tree().All() {
			if path != "/" || !folder {
				t.Errorf("%q is there", path)
			}
		}
		if !k.Tree().Exists("/") {
			t.Error("/ isn't there")
		}
	}
}

func TestNewHasRoom(t *testing.T) { // P12.1
	rooms := []int{math.MinInt, -1, 0, 1, 2, 5, 63, 64, 65, 1 << 20, 1 << 32, math.MaxInt}
	for _, room := range rooms {
		k := build(t, room, "+a +b")
		for i := range min(max(room, 0), 64) {
			if pid, err := k.Spawn([]string{"a", "b"}[i%2], "x"); pid != i+2 || err != 0 {
				t.Fatalf("room %d: number %d is %d, %d", room, i+1, pid, err)
			}
		}
		before := say(k)
		if pid, err := k.Spawn("a", "x"); pid != 0 || err != 81 || say(k) != before {
			t.Errorf("room %d: %d, %d", room, pid, err)
		}
		if pid, err := k.Fork(2); room > 0 && (pid != 0 || err != 81 || say(k) != before) {
			t.Errorf("room %d: forked %d, %d", room, pid, err)
		}
	}
}

func TestSpawn(t *testing.T) { // P12.1
	k := build(t, 9, "+b +a")
	for i, group := range []string{"b", "a", "b"} {
		if pid, err := k.Spawn(group, fmt.Sprint("run ", i)); pid != i+2 || err != 0 {
			t.Errorf("%d, %d", pid, err)
		}
	}
	if got := say(k); got != "2<1(b,run 0) 3<1(a,run 1) 4<1(b,run 2); a[3] b[2 4]; 0; 0 100" {
		t.Error(got)
	}
}

func TestSpawnTakesAnyTexts(t *testing.T) { // P12.1
	k := New(64, 0)
	texts := []string{" ", "a/b", "\x00", "\xff\xfe", "é", "a\n", strings.Repeat("x", 5000)}
	for i, text := range texts {
		k.Groups().Make(text)
		pid, err := k.Spawn(text, text)
		p, _ := k.Procs().Get(pid)
		if of, _ := k.Groups().Of(pid); err != 0 || of != text || p != (api.Proc{Pid: i + 2, Parent: 1, Group: text, Cmd: text}) {
			t.Errorf("%q: %v, %d", text, p, err)
		}
	}
	if pid, err := k.Spawn(texts[0], ""); pid == 0 || err != 0 {
		t.Errorf("no command: %d, %d", pid, err)
	}
}

func TestSpawnWithoutGroup(t *testing.T) { // P12.1
	k := build(t, 3, "+ab +b +gone sab -gone")
	before := say(k)
	for _, group := range []string{"", "a", "abc", "B", "b ", "b\x00", "gone", "c"} {
		if pid, err := k.Spawn(group, "x"); pid != 0 || err != 90 || say(k) != before {
			t.Errorf("%q: %d, %d, %s", group, pid, err, say(k))
		}
	}
	if pid, err := k.Spawn("b", "x"); pid != 3 || err != 0 { // no number was used up
		t.Errorf("%d, %d", pid, err)
	}
	for _, room := range []int{0, 1} { // of both errors the first one is told
		full := build(t, room, "+a"+strings.Repeat(" sa", room))
		if _, err := full.Spawn("z", "x"); err != 90 {
			t.Errorf("full: %d", err)
		}
		if _, err := full.Spawn("a", "x"); err != 81 {
			t.Errorf("full: %d", err)
		}
	}
}

func TestSpawnFindsEachOfManyGroups(t *testing.T) { // P12.1
	const count = 300
	k := New(64, 0)
	for i := range count {
		k.Groups().Make(fmt.Sprint("g", i))
	}
	for i := range 3 * count {
		group := fmt.Sprint("g", i%(count+50))
		pid, err := k.Spawn(group, "x")
		if i%(count+50) >= count {
			if err != 90 {
				t.Fatalf("%s: %d", group, err)
			}
			continue
		}
		if err != 0 || fmt.Sprint(k.Groups().Members(group)) != fmt.Sprintf("[%d]", pid) {
			t.Fatalf("%s: %d, %d, %v", group, pid, err, k.Groups().Members(group))
		}
		k.Exit(pid, 0)
		k.Reap()
	}
}

func TestFork(t *testing.T) { // P12.1, P12.3
	k := build(t, 9, "+a +b sa sb")
	for i, pid := range []int{2, 3, 4, 4, 5} {
		if child, err := k.Fork(pid); child != i+4 || err != 0 {
			t.Errorf("%d, %d", child, err)
		}
	}
	if got := say(k); got != "2<1(a,c) 3<1(b,c) 4<2(a,c) 5<3(b,c) 6<4(a,c) 7<4(a,c) 8<5(b,c); a[2 4 6 7] b[3 5 8]; 0; 0 100" {
		t.Error(got)
	}
}

func TestForkOfOrphanStaysInGroup(t *testing.T) { // P12.3
	k := build(t, 9, "+a +b sa f2 x2 r f3 x3 f4 sb")
	if got := say(k); got != "3<1(a,c)z7 4<1(a,c) 5<4(a,c) 6<1(b,c); a[4 5] b[6]; 0; 0 100" {
		t.Error(got)
	}
	checkHomes(t, k, "orphans")
}

func TestForkErrs(t *testing.T) { // P12.1
	k := build(t, 4, "+a sa sa sa k3 x4 x2 r") // 2 is gone, 3 was sent SigKill, 4 has ended
	before := say(k)
	for _, pid := range append(strangers(), 2, 3, 4, 5) {
		if child, err := k.Fork(pid); child != 0 || err != 80 || say(k) != before {
			t.Errorf("%d: %d, %d, %s", pid, child, err, say(k))
		}
	}
	terms := build(t, 3, "+a sa t2")
	if child, err := terms.Fork(2); child != 3 || err != 0 {
		t.Errorf("SigTerm alone: %d, %d", child, err)
	}
	if child, err := terms.Fork(3); child != 4 || err != 0 {
		t.Errorf("%d, %d", child, err)
	}
	if child, err := terms.Fork(3); child != 0 || err != 81 {
		t.Errorf("full: %d, %d", child, err)
	}
	if child, err := terms.Fork(9); child != 0 || err != 80 { // of both errors the first one is told
		t.Errorf("full: %d, %d", child, err)
	}
}

func TestExitLeavesGroupAtOnce(t *testing.T) { // P12.1, P12.3
	k := build(t, 9, "+a +b sa f2 sb")
	if k.Exit(2, 7) != 0 || say(k) != "2<1(a,c)z7 3<1(a,c) 4<1(b,c); a[3] b[4]; 0; 0 100" {
		t.Error(say(k))
	}
	if name, ok := k.Groups().Emptied(); ok {
		t.Errorf("%q is emptied", name)
	}
	if k.Exit(4, 0) != 0 || k.Exit(3, 1) != 0 || say(k) != "2<1(a,c)z7 3<1(a,c)z1 4<1(b,c)z0; a[] b[]; 0; 0 100" {
		t.Error(say(k))
	}
	first, _ := k.Groups().Emptied()
	second, _ := k.Groups().Emptied()
	if _, third := k.Groups().Emptied(); first != "b" || second != "a" || third {
		t.Errorf("%q, %q", first, second)
	}
	for _, name := range []string{"a", "b"} { // those who wait to be reaped don't keep it
		if err := k.Groups().Remove(name); err != 0 {
			t.Errorf("%q: %d", name, err)
		}
	}
	for range 3 {
		k.Reap()
	}
	if name, ok := k.Groups().Emptied(); ok || say(k) != "; ; 0; 0 100" {
		t.Errorf("reaped: %q, %s", name, say(k))
	}
}

func TestExitStatus(t *testing.T) { // P12.1
	for status, want := range map[int]int{0: 0, 1: 1, 255: 255, 256: 255, -1: -1, -9: -9, -64: -64, -65: 255, math.MinInt: 255, math.MaxInt: 255, 1 << 32: 255} {
		k := build(t, 1, "+a sa")
		err := k.Exit(2, status)
		p, bad := k.Reap()
		if err != 0 || bad != 0 || p != (api.Proc{Pid: 2, Parent: 1, Group: "a", Cmd: "c", Zombie: true, Status: want}) {
			t.Errorf("%d: %d, %v, %d", status, err, p, bad)
		}
	}
}

func TestExitErrs(t *testing.T) { // P12.1
	k := build(t, 9, "+a sa sa sa x3 x2 r")
	before := say(k)
	for _, pid := range append(strangers(), 2, 3, 5) {
		if err := k.Exit(pid, 0); err != 80 || say(k) != before {
			t.Errorf("%d: %d, %s", pid, err, say(k))
		}
	}
}

func TestDie(t *testing.T) { // P12.1
	k := build(t, 9, "+a sa sa sa sa x2 r x3 t4 k5") // 2 is gone, 3 has ended, 4 was sent SigTerm alone
	before := say(k)
	for _, pid := range append(strangers(), 2, 3, 4, 6) {
		if err := k.Die(pid); err != 80 || say(k) != before {
			t.Errorf("%d: %d, %s", pid, err, say(k))
		}
	}
	if k.Die(5) != 0 || say(k) != "3<1(a,c)z7 4<1(a,c)t 5<1(a,c)kz-9; a[4]; 0; 0 100" {
		t.Error(say(k))
	}
	if k.Die(5) != 80 || k.Exit(5, 0) != 80 {
		t.Errorf("twice: %s", say(k))
	}
}

func TestDieAfterBothSignals(t *testing.T) { // P12.1
	for _, text := range []string{"+a sa f2 t2 k2", "+a sa f2 k2 t2", "+a sa f2 k2 k2 t2"} {
		k := build(t, 9, text)
		if k.Die(3) != 80 || k.Die(2) != 0 || say(k) != "2<1(a,c)tkz-9 3<1(a,c); a[3]; 0; 0 100" {
			t.Errorf("%s: %s", text, say(k))
		}
	}
	ended := build(t, 9, "+a sa k2 x2") // it ended by itself ahead of that
	if ended.Die(2) != 80 || say(ended) != "2<1(a,c)kz7; a[]; 0; 0 100" {
		t.Error(say(ended))
	}
}

func TestKill(t *testing.T) { // P12.1
	k := build(t, 9, "+a sa f2 sa")
	if k.Kill(2, 15) != 0 || k.Kill(3, 9) != 0 || k.Kill(2, 15) != 0 || say(k) != "2<1(a,c)t 3<2(a,c)k 4<1(a,c); a[2 3 4]; 0; 0 100" {
		t.Error(say(k))
	}
	before := say(k)
	for _, sig := range []int{math.MinInt, -15, -9, 0, 1, 2, 8, 10, 14, 16, 1<<32 + 9, 1<<32 + 15, math.MaxInt} {
		if err := k.Kill(4, sig); err != 80 || say(k) != before {
			t.Errorf("signal %d: %d", sig, err)
		}
		if n := k.KillGroup("a", sig); n != 0 || say(k) != before {
			t.Errorf("signal %d: %d", sig, n)
		}
	}
	k.Exit(4, 0)
	before = say(k)
	for _, pid := range append(strangers(), 4, 5) {
		if k.Kill(pid, 15) != 80 || k.Kill(pid, 9) != 80 || say(k) != before {
			t.Errorf("%d: %s", pid, say(k))
		}
	}
}

func TestKillGroup(t *testing.T) { // P12.1
	k := build(t, 9, "+a +b +c sa sb f2 f4 f3 x4 k5")
	if n := k.KillGroup("a", 15); n != 2 || say(k) != "2<1(a,c)t 3<1(b,c) 4<2(a,c)z7 5<1(a,c)tk 6<3(b,c); a[2 5] b[3 6] c[]; 0; 0 100" {
		t.Errorf("%d, %s", n, say(k))
	}
	if n := k.KillGroup("b", 9); n != 2 || say(k) != "2<1(a,c)t 3<1(b,c)k 4<2(a,c)z7 5<1(a,c)tk 6<3(b,c)k; a[2 5] b[3 6] c[]; 0; 0 100" {
		t.Errorf("%d, %s", n, say(k))
	}
	if n := k.KillGroup("b", 9); n != 2 { // once more is as good
		t.Error(n)
	}
	before := say(k)
	for _, group := range []string{"c", "", "z", "A", "ab"} {
		if n := k.KillGroup(group, 9); n != 0 || say(k) != before {
			t.Errorf("%q: %d, %s", group, n, say(k))
		}
	}
}

func TestKillGroupOfAll(t *testing.T) { // P12.1, P12.3
	k := build(t, 64, "+a"+strings.Repeat(" sa", 64))
	if n := k.KillGroup("a", 9); n != 64 {
		t.Error(n)
	}
	for pid := 2; pid <= 65; pid++ {
		if name, ok := k.Groups().Emptied(); ok || k.Die(pid) != 0 || len(k.Groups().Members("a")) != 65-pid {
			t.Fatalf("%d: %q, %s", pid, name, say(k))
		}
	}
	if name, ok := k.Groups().Emptied(); name != "a" || !ok || k.KillGroup("a", 9) != 0 {
		t.Errorf("%q, %v", name, ok)
	}
}

func TestReap(t *testing.T) { // P12.1
	k := build(t, 9, "+a sa sa f2 f3 x4 x5 x3 x2") // at last all are 1's
	for _, want := range []string{"2<1(a,c)z7", "3<1(a,c)z7", "4<1(a,c)z7", "5<1(a,c)z7"} {
		p, err := k.Reap()
		if got := (sent{Proc: p}).String(); got != want || err != 0 {
			t.Errorf("%s, %d, wanted %s", got, err, want)
		}
	}
	for range 2 {
		if p, err := k.Reap(); p != (api.Proc{}) || err != 80 {
			t.Errorf("%v, %d", p, err)
		}
	}
}

func TestReapIsOfProcessOneAlone(t *testing.T) { // P12.1
	k := build(t, 9, "+a sa f2 x3")
	before := say(k)
	if p, err := k.Reap(); p != (api.Proc{}) || err != 80 || say(k) != before {
		t.Errorf("%v, %d, %s", p, err, say(k))
	}
}

func TestWait(t *testing.T) { // P12.1
	k := build(t, 9, "+a sa f2 f2 f3 x4 x3 x5") // 3 and 4 are 2's, 5 is 1's
	if k.Wait(2) != 0 || say(k) != "2<1(a,c) 4<2(a,c)z7 5<1(a,c)z7; a[2]; 0; 0 100" {
		t.Error(say(k))
	}
	if k.Wait(2) != 0 || say(k) != "2<1(a,c) 5<1(a,c)z7; a[2]; 0; 0 100" {
		t.Error(say(k))
	}
	if k.Wait(2) != 80 {
		t.Error(say(k))
	}
	if name, ok := k.Groups().Emptied(); ok { // waiting empties no group
		t.Error(name)
	}
}

func TestWaitErrs(t *testing.T) { // P12.1
	k := build(t, 9, "+a sa f2 sa f4 x3 x4 sa x6 r r") // 4 and 6 are gone, 5 is 1's, 3 is 2's
	k.Exit(5, 0)
	before := say(k)
	for _, pid := range append(strangers(), 3, 4, 5, 6, 7) { // 1 has a child that has ended, and doesn't wait
		if err := k.Wait(pid); err != 80 || say(k) != before {
			t.Errorf("%d: %d, %s", pid, err, say(k))
		}
	}
	if p, err := k.Reap(); p.Pid != 5 || err != 0 || k.Wait(2) != 0 {
		t.Errorf("%v, %d", p, err)
	}
}

func TestNotify(t *testing.T) { // P12.2
	k := build(t, 9, "+a sa f2 k3")
	texts := []string{"READY=1", "", "\x00\xff", strings.Repeat("x", 200)}
	for i, text := range texts {
		if err := k.Notify(2+i%2, text); err != 0 || k.Ports().Datagrams() != i+1 { // one that was killed may, until it has ended
			t.Errorf("%q: %d", text, err)
		}
	}
	for i, text := range texts {
		if d, ok := k.Ports().Receive(); d != (api.Datagram{Pid: 2 + i%2, Text: text}) || !ok {
			t.Errorf("%v, %v", d, ok)
		}
	}
}

func TestNotifyStaysBehindItsSender(t *testing.T) { // P12.2
	k := build(t, 9, "+a sa n2 x2 r")
	if d, ok := k.Ports().Receive(); d != (api.Datagram{Pid: 2, Text: "m"}) || !ok {
		t.Errorf("%v, %v", d, ok)
	}
}

func TestNotifyErrs(t *testing.T) { // P12.2
	long := []string{strings.Repeat("x", 201), strings.Repeat("é", 101), strings.Repeat("x", 1<<16)}
	k := build(t, 9, "+a sa sa sa x3 x2 r")
	before := say(k)
	for _, pid := range append(strangers(), 2, 3, 5) {
		for _, text := range append(long, "", "x") { // of both errors the first one is told
			if err := k.Notify(pid, text); err != 80 || say(k) != before {
				t.Errorf("%d: %d, %s", pid, err, say(k))
			}
		}
	}
	for _, text := range long {
		if err := k.Notify(4, text); err != 100 || say(k) != before {
			t.Errorf("%d, %s", err, say(k))
		}
	}
	for i := range 16 {
		if err := k.Notify(4, "x"); err != 0 {
			t.Errorf("%d: %d", i, err)
		}
	}
	if a, b, c := k.Notify(4, "x"), k.Notify(4, long[0]), k.Notify(3, "x"); a != 102 || b != 100 || c != 80 || k.Ports().Datagrams() != 16 {
		t.Errorf("full: %d, %d, %d", a, b, c)
	}
	k.Ports().Receive()
	if a, b := k.Notify(4, "x"), k.Notify(4, "x"); a != 0 || b != 102 {
		t.Errorf("%d, %d", a, b)
	}
}

func TestTick(t *testing.T) { // P12.2
	for _, c := range []struct {
		wall       int64
		ticks      []int64
		mono, want int64
	}{
		{100, nil, 0, 100},
		{100, []int64{0}, 0, 100},
		{100, []int64{5}, 5, 105},
		{100, []int64{5, 0, 7}, 12, 112},
		{-5, []int64{5}, 5, 0},
		{math.MinInt64, []int64{1}, 1, math.MinInt64 + 1},
		{math.MinInt64, []int64{math.MaxInt64 - 1}, math.MaxInt64 - 1, -2},
		{math.MinInt64, []int64{math.MaxInt64}, math.MaxInt64, math.MaxInt64}, // Forever is no number that a sum has
		{0, []int64{math.MaxInt64 - 1, 1}, math.MaxInt64, math.MaxInt64},
		{-1, []int64{math.MaxInt64 - 1, 1}, math.MaxInt64, math.MaxInt64 - 1},
		{0, []int64{1 << 62, 1 << 62, 1 << 62}, math.MaxInt64, math.MaxInt64},
		{math.MaxInt64, []int64{3}, 3, math.MaxInt64},
		{math.MaxInt64 - 3, []int64{2}, 2, math.MaxInt64 - 1},
		{math.MaxInt64 - 3, []int64{4}, 4, math.MaxInt64},
	} {
		k := New(1, c.wall)
		for _, n := range c.ticks {
			if err := k.Tick(n); err != 0 {
				t.Errorf("%d: %d", n, err)
			}
		}
		if k.Mono() != c.mono || k.Wall() != c.want {
			t.Errorf("%d, %v: %d, %d", c.wall, c.ticks, k.Mono(), k.Wall())
		}
	}
}

func TestTickErrs(t *testing.T) { // P12.2
	for _, n := range []int64{-1, -2, math.MinInt32, -math.MaxInt64, math.MinInt64} {
		for _, wall := range clocks() {
			k := New(1, wall)
			k.Tick(3)
			before := say(k)
			if err := k.Tick(n); err != 10 || say(k) != before {
				t.Errorf("%d: %d, %s", n, err, say(k))
			}
		}
	}
}

func TestJump(t *testing.T) { // P12.2
	k := New(1, 100)
	k.Tick(5)
	for _, wall := range clocks() {
		if k.Jump(wall); k.Wall() != wall || k.Mono() != 5 {
			t.Errorf("%d: %d, %d", wall, k.Mono(), k.Wall())
		}
	}
	if k.Jump(-7); k.Tick(10) != 0 || k.Wall() != 3 || k.Mono() != 15 { // from Forever it comes back
		t.Errorf("%d, %d", k.Mono(), k.Wall())
	}
}

func TestClocksAgainstWords(t *testing.T) { // P12.2
	for _, wall := range clocks() {
		for _, first := range clocks() {
			for _, then := range clocks() {
				checkCalls(t, 0, wall, []call{{word: "tick", span: first}, {word: "tick", span: then}, {word: "jump", span: first}, {word: "tick", span: then}})
			}
		}
	}
}

func TestPartsAreTheKernelsOwn(t *testing.T) { // P12.1, P12.2
	k := New(5, 0)
	if k.Procs() != k.Procs() || k.Groups() != k.Groups() || k.Ports() != k.Ports() || k.Tree() != k.Tree() {
		t.Error("a part is another one when it is asked for again")
	}
	groups, ports, files, procs := k.Groups(), k.Ports(), k.Tree(), k.Procs()
	groups.Make("a")
	k.Spawn("a", "x")
	k.Notify(2, "m")
	ports.Listen("s")
	ports.Connect("s", "y")
	files.Make("/f", false)
	if d, _ := ports.Receive(); d.Text != "m" || procs.Len() != 1 || fmt.Sprint(groups.Members("a")) != "[2]" {
		t.Errorf("%v, %d", d, procs.Len())
	}
	if fmt.Sprint(k.Ports().Waiting("s")) != "[{1 y}]" || !k.Tree().Exists("/f") {
		t.Errorf("%v", k.Ports().Waiting("s"))
	}
}

func TestCallsLeaveSocketsAndFilesAlone(t *testing.T) { // P12.1, P12.2
	k := New(5, 0)
	k.Ports().Listen("a")
	k.Ports().Connect("a", "y")
	k.Tree().Make("/a", true)
	k.Tree().Mount("x", "/a")
	for _, c := range readCalls("+a sa f2 n2 Ta Ka d3 w2 d2 r i5 j7 e -a") {
		if r := run(k, c); r.err != 0 {
			t.Errorf("%v: %d", c, r.err)
		}
	}
	paths := 0
	for range k.Tree().All() {
		paths++
	}
	if what, ok := k.Tree().Mounted("/a"); what != "x" || !ok || paths != 2 || k.Tree().Stamp("/a") != 1 || fmt.Sprint(k.Ports().Waiting("a"), slices.Collect(k.Ports().Listening())) != "[{1 y}] [a]" {
		t.Errorf("%q, %v, %d", what, ok, paths)
	}
}

func TestKernelsAreApart(t *testing.T) { // P12.1, P12.2
	k, other := build(t, 5, "+a sa f2 n2 i5"), New(5, 7)
	k.Ports().Listen("s")
	k.Tree().Make("/f", false)
	if _, err := other.Spawn("a", "x"); err != 90 || say(other) != "; ; 0; 0 7" || len(slices.Collect(other.Ports().Listening())) != 0 || other.Tree().Exists("/f") {
		t.Errorf("%d, %s", err, say(other))
	}
	before := say(k)
	other.Groups().Make("a")
	other.Spawn("a", "x")
	other.KillGroup("a", 9)
	other.Die(2)
	other.Tick(3)
	other.Jump(1)
	if say(k) != before {
		t.Errorf("%s became %s", before, say(k))
	}
}

func TestZeroKernelPanicsAtNoCall(t *testing.T) { // P12.1, P12.2
	var k Kernel
	for _, pid := range append(strangers(), 2) {
		for _, word := range []string{"spawn", "fork", "exit", "die", "kill", "killgroup", "reap", "wait", "notify", "emptied", "receive"} {
			if r := run(&k, call{word: word, pid: pid, n: 9, group: "a"}); r.n != 0 || r.yes {
				t.Errorf("%s: %v", word, r)
			}
		}
	}
	if say(&k) != "; ; 0; 0 0" || k.Groups().Make("a") != 0 || k.Tick(5) != 0 {
		t.Error(say(&k))
	}
	if _, err := k.Spawn("a", "x"); err != 81 || say(&k) != "; a[]; 0; 5 5" { // it has no room
		t.Errorf("%d, %s", err, say(&k))
	}
	k.Jump(3)
	k.Tree().Make("/a", true)
	k.Tree().Mount("x", "/")
	if k.Ports().Listen("s") != 0 || k.Wall() != 3 || k.Procs().Len() != 0 {
		t.Error(say(&k))
	}
}

// each: all rows of just so many of the calls.
func each(calls []call, length int, do func([]call)) {
	row := make([]call, length)
	var fill func(int)
	fill = func(i int) {
		if i == length {
			do(row)
			return
		}
		for _, c := range calls {
			row[i] = c
			fill(i + 1)
		}
	}
	fill(0)
}

func TestAllShortRowsOfCalls(t *testing.T) { // P12.1, P12.2, P12.3
	for _, part := range []struct {
		room         int
		first, calls string
		most         int
	}{
		{3, "+a sa", "f2 f3 x2 x3 Ka d2 d3 w2 r e", 4},
		{2, "+a +b", "sa sb f2 x2 x3 r -a +a e", 5},
		{3, "+a sa f2", "x2 x3 x4 f2 f3 w2 r Ta", 5},
		{3, "+a sa f2 f3", "k2 k3 Ka d2 d3 d4 w2 w3", 5},
		{9, "+a sa f2", "n2 n3 x2 x3 r w2 v", 5},
		{1, "+a sa", "i0 i5 j3 j-8 n2 x2 r", 4},
	} {
		first := readCalls(part.first)
		for length := range part.most + 1 {
			each(readCalls(part.calls), length, func(row []call) {
				k, m := New(part.room, 100), newModel(part.room, 100)
				for _, c := range slices.Concat(first, row) {
					if got, want := run(k, c), m.run(c); got != want {
						t.Fatalf("%s, %v: %v answered %v, wanted %v", part.first, row, c, got, want)
					}
				}
				if say(k) != m.say() {
					t.Fatalf("%s, %v: it is\n%s, wanted\n%s", part.first, row, say(k), m.say())
				}
				checkHomes(t, k, row)
				checkDrained(t, k, m, row)
			})
		}
	}
}

// randomCall: of few groups, and of processes of the numbers that were given last.
func randomCall(r *rand.Rand, greatest int) call {
	words := []string{
		"make", "make", "remove", "emptied", "receive", "spawn", "spawn", "spawn", "spawn", "fork", "fork", "fork", "fork", "exit", "exit",
		"die", "die", "kill", "kill", "killgroup", "reap", "reap", "wait", "wait", "notify", "notify", "notify", "tick", "jump",
	}
	groups := []string{"a", "b", "ab", "\xff", "", "z"}
	c := call{word: words[r.Intn(len(words))], pid: greatest - r.Intn(8), n: r.Intn(300) - 40, group: groups[r.Intn(len(groups))], text: strings.Repeat("x", r.Intn(3))}
	switch {
	case c.word == "kill" || c.word == "killgroup":
		c.n = []int{9, 15, 15, 15, 1}[r.Intn(5)]
	case c.word == "notify" && r.Intn(8) == 0:
		c.text = strings.Repeat("x", 199+r.Intn(3))
	case c.word == "make" && r.Intn(3) > 0:
		c.group = groups[r.Intn(3)]
	}
	c.span = r.Int63n(100) - 10
	if r.Intn(20) == 0 {
		c.span = clocks()[r.Intn(len(clocks()))]
	}
	if r.Intn(20) == 0 {
		c.pid = strangers()[r.Intn(len(strangers()))]
	}
	return c
}

func TestCallsAgainstWords(t *testing.T) { // P12.1, P12.2, P12.3
	for seed := range 300 {
		r := rand.New(rand.NewSource(int64(seed)))
		calls := readCalls("+a +b")
		for range 80 {
			calls = append(calls, randomCall(r, 2+len(calls)/8))
		}
		checkCalls(t, seed%12, int64(seed), calls)
	}
}

func TestManyCallsAgainstWords(t *testing.T) { // P12.1, P12.2, P12.3
	r := rand.New(rand.NewSource(5))
	k, m := New(20, 0), newModel(20, 0)
	taken := map[string]int{}
	errs := map[api.Errno]int{}
	for i := range 30000 {
		c := randomCall(r, m.greatest+1)
		if len(m.row) > 0 && r.Intn(2) == 0 { // one that is there
			c.pid = m.row[r.Intn(len(m.row))].Pid
		}
		if (c.word == "tick" || c.word == "jump") && r.Intn(4) == 0 { // so that the clocks don't stand still
			c = call{word: "jump", span: c.span}
		}
		got, want := run(k, c), m.run(c)
		if got != want || say(k) != m.say() {
			t.Fatalf("call %d, %v: answered %v, wanted %v; it is\n%s, wanted\n%s", i, c, got, want, say(k), m.say())
		}
		if got.err == 0 && (got.n > 0 || c.word != "killgroup") {
			taken[c.word]++
		}
		errs[got.err]++
		checkHomes(t, k, i)
	}
	checkDrained(t, k, m, "at the end")
	for _, word := range []string{"spawn", "fork", "exit", "die", "kill", "killgroup", "reap", "wait", "notify", "tick", "jump"} {
		if taken[word] < 100 {
			t.Errorf("%s was taken %d times", word, taken[word])
		}
	}
	for _, err := range []api.Errno{10, 80, 81, 90, 91, 100, 102} {
		if errs[err] < 10 {
			t.Errorf("error %d came %d times", err, errs[err])
		}
	}
}

func FuzzCalls(f *testing.F) { // P12.1, P12.2, P12.3
	f.Add([]byte("\x00\x01\x00\x05\x01\x00\x06\x02\x00\x07\x02\x00\x0b\x00\x00\x0a\x01\x09\x08\x03\x00\x02\x00\x00"))
	f.Add([]byte("\x00\x02\x00\x05\x02\x00\x06\x02\x00\x07\x03\x07\x0c\x02\x00\x0d\x02\xc8\x0d\x02\xc9\x03\x00\x00\x0e\x09\x00\x0f\x80\x00"))
	f.Fuzz(func(t *testing.T, bytes []byte) {
		words := []string{"make", "remove", "emptied", "receive", "make", "spawn", "fork", "exit", "die", "kill", "killgroup", "reap", "wait", "notify", "tick", "jump"}
		room := len(bytes) % 7
		var calls []call
		for ; len(bytes) >= 3 && len(calls) < 150; bytes = bytes[3:] {
			a, b := int(int8(bytes[1])), bytes[2]
			c := call{word: words[int(bytes[0])%len(words)], pid: a, n: int(int8(b)), group: []string{"", "a", "b"}[uint(a)%3], text: strings.Repeat("x", int(b)), span: int64(a) << (b % 64)}
			calls = append(calls, c)
		}
		checkCalls(t, room, 100, calls)
	})
}
