package span

import (
	"iter"
	"math"
	"math/big"
	"math/rand"
	"regexp"
	"slices"
	"strings"
	"testing"

	"reveille/api"
)

const (
	forever = int64(api.Forever)
	lowest  = int64(math.MinInt64)
)

// edges: numbers around which sums, products and prints turn.
func edges() []int64 {
	var out []int64
	for _, n := range []int64{lowest + 3, lowest / 2, -604800, 0, 60, 3600, 86400, 604800, forever / 604800 * 604800, forever / 2, forever - 3} {
		for d := int64(-3); d <= 3; d++ {
			out = append(out, n+d)
		}
	}
	return out
}

// clamped: what P1.1 asks of an exact result.
func clamped(n *big.Int) int64 {
	if n.Cmp(big.NewInt(forever)) > 0 {
		return forever
	}
	if n.Cmp(big.NewInt(lowest)) < 0 {
		return lowest
	}
	return n.Int64()
}

func wantedSum(a, b int64) int64 {
	if a == forever || b == forever {
		return forever
	}
	return clamped(new(big.Int).Add(big.NewInt(a), big.NewInt(b)))
}

func wantedDifference(a, b int64) int64 {
	if a == forever {
		return forever
	}
	if b == forever {
		return lowest
	}
	return clamped(new(big.Int).Sub(big.NewInt(a), big.NewInt(b)))
}

func TestAdd(t *testing.T) { // P1.1
	for _, c := range []struct{ a, b, want int64 }{
		{1, 2, 3},
		{-7, 2, -5},
		{forever, 0, forever},
		{forever, -1, forever},
		{-1, forever, forever},
		{forever, lowest, forever},
		{lowest, forever, forever},
		{forever - 1, 0, forever - 1},
		{forever - 1, 1, forever},
		{forever - 1, forever - 1, forever},
		{-forever, -1, lowest},
		{-forever, -2, lowest},
		{lowest, lowest, lowest},
		{lowest, 0, lowest},
		{lowest, forever - 1, -2},
	} {
		if got := Add(c.a, c.b); got != c.want {
			t.Errorf("Add(%d, %d): %d, want %d", c.a, c.b, got, c.want)
		}
	}
}

func TestSub(t *testing.T) { // P1.1
	for _, c := range []struct{ a, b, want int64 }{
		{1, 2, -1},
		{-7, -2, -5},
		{forever, forever, forever},
		{forever, 1, forever},
		{forever, lowest, forever},
		{0, forever, lowest},
		{forever - 1, forever, lowest},
		{lowest, forever, lowest},
		{-5, -forever, forever - 5},
		{5, -forever, forever},
		{-1, lowest, forever},
		{0, lowest, forever},
		{-2, lowest, forever - 1},
		{lowest, lowest, 0},
		{lowest, 1, lowest},
		{lowest, -1, lowest + 1},
		{-1, forever - 1, lowest + 1},
		{-2, forever - 1, lowest},
		{-3, forever - 1, lowest},
	} {
		if got := Sub(c.a, c.b); got != c.want {
			t.Errorf("Sub(%d, %d): %d, want %d", c.a, c.b, got, c.want)
		}
	}
}

func TestSumsAgainstExactOnes(t *testing.T) { // P1.1
	check := func(a, b int64) {
		if got, want := Add(a, b), wantedSum(a, b); got != want {
			t.Fatalf("Add(%d, %d): %d, want %d", a, b, got, want)
		}
		if got, want := Sub(a, b), wantedDifference(a, b); got != want {
			t.Fatalf("Sub(%d, %d): %d, want %d", a, b, got, want)
		}
	}
	for _, a := range edges() {
		for _, b := range edges() {
			check(a, b)
		}
	}
	r := rand.New(rand.NewSource(1))
	for range 20000 {
		check(int64(r.Uint64())>>r.Intn(64), int64(r.Uint64())>>r.Intn(64))
	}
}

func TestParseTakes(t *testing.T) { // P1.2
	for _, c := range []struct {
		s    string
		want int64
	}{
		{"infinity", forever},
		{"0", 0},
		{"5", 5},
		{"  5  ", 5},
		{"5s", 5},
		{"5sec", 5},
		{"5m", 300},
		{"5min", 300},
		{"5h", 18000},
		{"5hr", 18000},
		{"5d", 432000},
		{"5w", 3024000},
		{"5   min", 300},
		{"1h 30min", 5400},
		{"1h30min", 5400},
		{" 1 h  30  min ", 5400},
		{"1m5", 65},
		{"1m 5 ", 65},
		{"1min5", 65},
		{"1s1sec1m1min1h1hr1d1w1", 698523},
		{"5s 1w 5s", 604810},
		{"0w", 0},
		{"007", 7},
		{"000000000000000001", 1},
		{"999999999999999999", 999999999999999999},
		{"15250284452471w", 15250284452471 * 604800},
		{"15250284452472w", forever},
		{"999999999999999999w", forever},
		{"999999999999999999w 1s", forever},
		{"1s 999999999999999999w", forever},
		{"15250284452471w 3d 15h 30min 6s", forever - 1},
		{"15250284452471w 3d 15h 30min 7s", forever},
		{"15250284452471w 3d 15h 30min 8s", forever},
		{strings.Repeat(" ", 100000) + "1" + strings.Repeat(" ", 100000) + "m", 60},
		{strings.Repeat("1s", 100000), 100000},
	} {
		if got, err := Parse(c.s); got != c.want || err != api.OK {
			t.Errorf("Parse(%.60q): %d, %d, want %d", c.s, got, err, c.want)
		}
	}
}

func TestParseRefuses(t *testing.T) { // P1.2
	for _, s := range []string{
		"", " ", "    ",
		"s", "min", " h", "m5",
		"5 6", "5 6s", "1h 5 6", "5 6 ",
		" infinity", "infinity ", "Infinity", "infinit", "infinityy", "1 infinity", "infinity 1", "-infinity", "1s infinity",
		"1x", "1se", "1 se", "1secs", "1mi", "1minn", "1hrs", "1hs", "1S", "1H", "1y", "1ms", "1s m",
		"1s x", "x 1s", "1s,1s", "1.5s", "1,5", "1_0", "0x1", "1e3",
		"-1", "+1", "- 1s", "1-1",
		"1\t", "\t1", "1\ts", "1s\n", "1\n2s", "1\x00", "\x00",
		"1\u00a0s", "\u0661s", "1\xff", "\xff",
		"1000000000000000000", "0000000000000000001", "0000000000000000001s", "1s 1000000000000000000s", "999999999999999999w 1x",
		strings.Repeat("9", 1000),
	} {
		if got, err := Parse(s); got != 0 || err != api.ErrSpan {
			t.Errorf("Parse(%.60q): %d, %d, want ErrSpan", s, got, err)
		}
	}
}

// wantedSpan: Parse by a pattern and exact sums.
func wantedSpan(s string) (int64, api.Errno) {
	if s == "infinity" {
		return forever, api.OK
	}
	if !spanPattern.MatchString(s) {
		return 0, api.ErrSpan
	}
	sum := new(big.Int)
	for _, m := range partPattern.FindAllStringSubmatch(s, -1) {
		digits, _ := new(big.Int).SetString(m[1], 10)
		size := map[string]int64{"": 1, "s": 1, "m": 60, "h": 3600, "d": 86400, "w": 604800}[m[2][:min(1, len(m[2]))]]
		sum.Add(sum, digits.Mul(digits, big.NewInt(size)))
	}
	return clamped(sum), api.OK
}

var (
	spanPattern = regexp.MustCompile(`\A *([0-9]{1,18} *(s|sec|m|min|h|hr|d|w) *)*([0-9]{1,18} *(s|sec|m|min|h|hr|d|w)? *)\z`)
	partPattern = regexp.MustCompile(`([0-9]+) *([a-z]*)`)
)

func TestParseAgainstPattern(t *testing.T) { // P1.2
	check := func(s string) {
		got, err := Parse(s)
		if want, wantErr := wantedSpan(s); got != want || err != wantErr {
			t.Fatalf("Parse(%q): %d, %d, want %d, %d", s, got, err, want, wantErr)
		}
	}
	pieces := []string{" ", "0", "7", "s", "sec", "m", "min", "h", "hr", "d", "w", "e", "infinity", "999999999999999999", "\t"}
	var all func(s string, left int)
	all = func(s string, left int) {
		check(s)
		if left == 0 {
			return
		}
		for _, p := range pieces {
			all(s+p, left-1)
		}
	}
	all("", 4)
	r := rand.New(rand.NewSource(2))
	for range 50000 {
		var s strings.Builder
		for range r.Intn(12) {
			s.WriteString(pieces[r.Intn(len(pieces)-3)])
		}
		check(s.String())
	}
}

func FuzzParse(f *testing.F) { // P1.2
	for _, s := range []string{"", "infinity", "1h 30min", "1m5", "5 6", "999999999999999999w"} {
		f.Add(s)
	}
	f.Fuzz(func(t *testing.T, s string) {
		got, err := Parse(s)
		if want, wantErr := wantedSpan(s); got != want || err != wantErr {
			t.Errorf("Parse(%q): %d, %d, want %d, %d", s, got, err, want, wantErr)
		}
	})
}

func TestPrint(t *testing.T) { // P1.3
	for _, c := range []struct {
		n    int64
		want string
	}{
		{0, "0s"},
		{1, "1s"},
		{59, "59s"},
		{60, "1min"},
		{61, "1min 1s"},
		{3599, "59min 59s"},
		{3600, "1h"},
		{86399, "23h 59min 59s"},
		{86400, "1d"},
		{90061, "1d 1h 1min 1s"},
		{604799, "6d 23h 59min 59s"},
		{604800, "1w"},
		{604805, "1w 5s"},
		{788645, "1w 2d 3h 4min 5s"},
		{604800 * 1000, "1000w"},
		{-1, "-1s"},
		{-60, "-1min"},
		{-788645, "-1w 2d 3h 4min 5s"},
		{forever, "infinity"},
		{forever - 1, "15250284452471w 3d 15h 30min 6s"},
		{-forever + 1, "-15250284452471w 3d 15h 30min 6s"},
		{-forever, "-infinity"},
		{lowest, "-infinity"},
	} {
		if got := Print(c.n); got != c.want {
			t.Errorf("Print(%d): %q, want %q", c.n, got, c.want)
		}
	}
}

func TestLeast(t *testing.T) { // P1.4
	for _, c := range []struct {
		l     []int64
		want  int64
		found bool
	}{
		{nil, 0, false},
		{[]int64{}, 0, false},
		{[]int64{0}, 0, true},
		{[]int64{7}, 7, true},
		{[]int64{-7}, -7, true},
		{[]int64{5, -3, 7}, -3, true},
		{[]int64{5, 3, 7}, 3, true},
		{[]int64{1, 2, 3}, 1, true},
		{[]int64{3, 2, 1}, 1, true},
		{[]int64{2, 2}, 2, true},
		{[]int64{forever}, forever, true},
		{[]int64{forever, forever - 1}, forever - 1, true},
		{[]int64{0, lowest, forever}, lowest, true},
	} {
		if got, found := Least(slices.Values(c.l)); got != c.want || found != c.found {
			t.Errorf("Least(%v): %d, %v, want %d, %v", c.l, got, found, c.want, c.found)
		}
	}
}

func TestLeastGoesThroughOnce(t *testing.T) { // P1.4
	begun, given, ended := 0, 0, 0
	var row iter.Seq[int64] = func(yield func(int64) bool) {
		begun++
		for _, n := range []int64{4, lowest, 9, lowest, 2} {
			given++
			if !yield(n) {
				return
			}
		}
		ended++
	}
	if got, found := Least(row); got != lowest || !found {
		t.Errorf("Least: %d, %v", got, found)
	}
	if begun != 1 || given != 5 || ended != 1 {
		t.Errorf("begun %d times, %d given, ended %d times", begun, given, ended)
	}
}

func TestParseOfPrint(t *testing.T) { // P1.5
	check := func(n int64) {
		if got, err := Parse(Print(n)); got != n || err != api.OK {
			t.Fatalf("Parse(Print(%d)): %d, %d", n, got, err)
		}
	}
	for n := range int64(200000) {
		check(n)
	}
	for _, n := range edges() {
		if n >= 0 {
			check(n)
		}
	}
	r := rand.New(rand.NewSource(3))
	for range 20000 {
		check(r.Int63() >> r.Intn(63))
	}
}

func TestAddRises(t *testing.T) { // P1.5
	numbers := edges()
	slices.Sort(numbers)
	for _, a := range numbers {
		for i := 1; i < len(numbers); i++ {
			low, high := numbers[i-1], numbers[i]
			if Add(a, low) > Add(a, high) {
				t.Errorf("Add(%d, %d) is above Add(%d, %d)", a, low, a, high)
			}
			if Add(low, a) > Add(high, a) {
				t.Errorf("Add(%d, %d) is above Add(%d, %d)", low, a, high, a)
			}
		}
	}
}
