package calendar

import (
	"math"
	"math/rand"
	"reflect"
	"strconv"
	"strings"
	"testing"
	"time"

	"reveille/api"
)

var anyPart = []api.Part{{Any: true}}

// one: a list of one number.
func one(n int) []api.Part { return []api.Part{{From: n, To: n}} }

func daily() api.Calendar {
	return api.Calendar{Year: []api.Part{{Any: true}}, Month: []api.Part{{Any: true}}, Day: []api.Part{{Any: true}}, Hour: one(0), Minute: one(0), Second: one(0)}
}

func parse(t *testing.T, s string) api.Calendar {
	t.Helper()
	c, err := Parse(s)
	if err != api.OK {
		t.Fatalf("Parse(%q): %d", s, err)
	}
	return c
}

func unix(t *testing.T, s string) int64 {
	t.Helper()
	x, err := time.Parse("2006-01-02 15:04:05", s)
	if err != nil {
		t.Fatal(err)
	}
	return x.Unix()
}

func moment(t int64) api.Moment {
	x := time.Unix(t, 0).UTC()
	return api.Moment{Date: api.Date{Year: x.Year(), Month: int(x.Month()), Day: x.Day()}, Hour: x.Hour(), Minute: x.Minute(), Second: x.Second()}
}

// place: one of an expression's lists, with its bounds by the document.
type place struct {
	name   string
	list   func(*api.Calendar) *[]api.Part
	lo, hi int
}

func allPlaces() []place {
	return []place{
		{"week", func(c *api.Calendar) *[]api.Part { return &c.Week }, 0, 6},
		{"year", func(c *api.Calendar) *[]api.Part { return &c.Year }, 1970, 2200},
		{"month", func(c *api.Calendar) *[]api.Part { return &c.Month }, 1, 12},
		{"day", func(c *api.Calendar) *[]api.Part { return &c.Day }, 1, 31},
		{"hour", func(c *api.Calendar) *[]api.Part { return &c.Hour }, 0, 23},
		{"minute", func(c *api.Calendar) *[]api.Part { return &c.Minute }, 0, 59},
		{"second", func(c *api.Calendar) *[]api.Part { return &c.Second }, 0, 59},
	}
}

// partIsIn: by the document's words, number by number.
func partIsIn(p api.Part, n int) bool {
	if p.Any {
		return true
	}
	if p.Step == 0 {
		return p.From <= n && n <= p.To
	}
	for x := p.From; x <= p.To; x += p.Step {
		if x == n {
			return true
		}
	}
	return false
}

func listHas(list []api.Part, n int) bool {
	for _, p := range list {
		if partIsIn(p, n) {
			return true
		}
	}
	return false
}

func expected(c api.Calendar, t int64) bool {
	x := time.Unix(t, 0).UTC()
	week := len(c.Week) == 0 || listHas(c.Week, (int(x.Weekday())+6)%7)
	return week && listHas(c.Year, x.Year()) && listHas(c.Month, int(x.Month())) && listHas(c.Day, x.Day()) &&
		listHas(c.Hour, x.Hour()) && listHas(c.Minute, x.Minute()) && listHas(c.Second, x.Second())
}

// P3.1
func TestIsTakesWhatFits(t *testing.T) {
	for _, p := range allPlaces() {
		good := [][]api.Part{one(p.lo), one(p.hi), {{From: p.lo, To: p.hi}}, {{From: p.hi, To: p.hi}, {From: p.lo, To: p.hi}, {From: p.lo, To: p.lo}}}
		full := make([]api.Part, api.MaxList)
		for i := range full {
			full[i] = api.Part{From: p.lo, To: p.hi}
		}
		good = append(good, full)
		if p.name != "week" {
			good = append(good, anyPart, []api.Part{{From: p.lo, To: p.hi, Step: 1}}, []api.Part{{From: p.lo, To: p.lo, Step: p.hi}}, []api.Part{{From: p.hi, To: p.hi, Step: p.hi}, {From: p.lo, To: p.lo}})
		} else {
			good = append(good, nil, []api.Part{})
		}
		for i, list := range good {
			c := daily()
			*p.list(&c) = list
			if !Is(c) {
				t.Errorf("%s, row %d: %v", p.name, i, list)
			}
		}
	}
}

// P3.1
func TestIsRefusesWhatDoesNotFit(t *testing.T) {
	for _, p := range allPlaces() {
		long := make([]api.Part, api.MaxList+1)
		for i := range long {
			long[i] = api.Part{From: p.lo, To: p.hi}
		}
		bad := [][]api.Part{
			long, {{From: p.lo - 1, To: p.hi}}, {{From: p.lo, To: p.hi + 1}}, one(p.lo - 1), one(p.hi + 1), {{From: p.lo + 1, To: p.lo}}, {{From: p.hi, To: p.lo}},
			{{From: p.lo, To: p.hi, Step: -1}}, {{From: p.lo, To: p.hi, Step: p.hi + 1}}, {{Any: true, From: p.lo + 1}}, {{Any: true, To: 1}}, {{Any: true, Step: 1}},
			{{Any: true}, {From: p.lo, To: p.lo}}, {{From: p.lo, To: p.lo}, {Any: true}}, {{Any: true}, {Any: true}}, {{From: p.lo, To: p.lo}, {From: p.hi + 1, To: p.hi + 1}},
			{{From: math.MinInt, To: math.MaxInt, Step: math.MinInt}}, {{From: p.lo, To: p.hi, Step: math.MaxInt}}, {{From: math.MaxInt, To: math.MaxInt}},
		}
		if p.name == "week" {
			bad = append(bad, anyPart, []api.Part{{From: 0, To: 6, Step: 1}}, []api.Part{{From: 0, To: 1}, {From: 2, To: 2, Step: 6}})
		} else {
			bad = append(bad, nil, []api.Part{})
		}
		for i, list := range bad {
			c := daily()
			*p.list(&c) = list
			text, err := Print(c)
			n, found := Next(c, 0)
			if Is(c) || err != api.ErrCal || text != "" || n != 0 || found || Matches(c, moment(0)) {
				t.Errorf("%s, row %d: %v", p.name, i, list)
			}
			for n := range From(c, 0) {
				t.Fatalf("%s, row %d: From gives %d", p.name, i, n)
			}
		}
	}
	if Is(api.Calendar{}) {
		t.Error("the zero")
	}
}

// P3.2
func TestParseGivesParts(t *testing.T) {
	for _, x := range []struct {
		in   string
		want func(*api.Calendar)
	}{
		{"daily", func(c *api.Calendar) {}},
		{"*-*-*", func(c *api.Calendar) {}},
		{"00:00", func(c *api.Calendar) {}},
		{"0:0:0", func(c *api.Calendar) {}},
		{"0000:000:00", func(c *api.Calendar) {}},
		{"*-*-* 00:00:00", func(c *api.Calendar) {}},
		{"minutely", func(c *api.Calendar) { c.Hour, c.Minute = anyPart, anyPart }},
		{"hourly", func(c *api.Calendar) { c.Hour = anyPart }},
		{"weekly", func(c *api.Calendar) { c.Week = one(0) }},
		{"monthly", func(c *api.Calendar) { c.Day = one(1) }},
		{"yearly", func(c *api.Calendar) { c.Month, c.Day = one(1), one(1) }},
		{"Mon,Tue,Wed,Thu,Fri,Sat,Sun", func(c *api.Calendar) {
			for n := range 7 {
				c.Week = append(c.Week, api.Part{From: n, To: n})
			}
		}},
		{"Wed..Sat,Mon,Mon..Mon", func(c *api.Calendar) { c.Week = []api.Part{{From: 2, To: 5}, {}, {}} }},
		{"Mon..Sun 23:59", func(c *api.Calendar) { c.Week, c.Hour, c.Minute = []api.Part{{To: 6}}, one(23), one(59) }},
		{"Sun 1970-12-31", func(c *api.Calendar) { c.Week, c.Year, c.Month, c.Day = one(6), one(1970), one(12), one(31) }},
		{"Sun 2200-1-1 23:59:59", func(c *api.Calendar) {
			c.Week, c.Year, c.Month, c.Day, c.Hour, c.Minute, c.Second = one(6), one(2200), one(1), one(1), one(23), one(59), one(59)
		}},
		{"2000/4-*/3-5..9", func(c *api.Calendar) {
			c.Year, c.Month, c.Day = []api.Part{{From: 2000, To: 2200, Step: 4}}, []api.Part{{From: 1, To: 12, Step: 3}}, []api.Part{{From: 5, To: 9}}
		}},
		{"*/2200-*-*/31", func(c *api.Calendar) {
			c.Year, c.Day = []api.Part{{From: 1970, To: 2200, Step: 2200}}, []api.Part{{From: 1, To: 31, Step: 31}}
		}},
		{"*/23:1..5/2:7/0059", func(c *api.Calendar) {
			c.Hour, c.Minute, c.Second = []api.Part{{To: 23, Step: 23}}, []api.Part{{From: 1, To: 5, Step: 2}}, []api.Part{{From: 7, To: 59, Step: 59}}
		}},
		{"*:*/10,3,4..4,9..9/1:*", func(c *api.Calendar) {
			c.Hour, c.Second = anyPart, anyPart
			c.Minute = []api.Part{{To: 59, Step: 10}, {From: 3, To: 3}, {From: 4, To: 4}, {From: 9, To: 9, Step: 1}}
		}},
		{"1,2,3,4,5,6,7,8,9,10,11,12:00", func(c *api.Calendar) {
			c.Hour = nil
			for n := 1; n <= api.MaxList; n++ {
				c.Hour = append(c.Hour, api.Part{From: n, To: n})
			}
		}},
	} {
		want := daily()
		x.want(&want)
		if c, err := Parse(x.in); err != api.OK || !reflect.DeepEqual(filled(c), filled(want)) {
			t.Errorf("Parse(%q): %v, %d", x.in, c, err)
		}
	}
}

// filled: without the unlikeness of nil and empty.
func filled(c api.Calendar) api.Calendar {
	if len(c.Week) == 0 {
		c.Week = nil
	}
	return c
}

// P3.2
func TestParseRefuses(t *testing.T) {
	long := strings.Repeat("0,", api.MaxList) + "0"
	for _, s := range []string{
		"", " ", "  ", "*", "**-*-*", "x", "Daily", "DAILY", "dailyx", "daily ", " daily", "Mon daily", "daily 00:00", "daily,weekly", "quarterly",
		"mon", "MON", "Mo", "Monday", "onT", "Mond", "Mon,", ",Mon", "Mon,,Tue", "Mon..", "..Mon", "Mon...Tue", "Mon.Tue", "Mon..Tue..Wed", "Tue..Mon", "Sun..Mon", "Mon-Fri", "Mon/2", "Mon..Fri/2", "*", "0", "Mon Tue", "Mon, Tue",
		"Mon,Mon,Mon,Mon,Mon,Mon,Mon,Mon,Mon,Mon,Mon,Mon,Mon",
		" 00:00", "00:00 ", "Mon  00:00", "Mon\t00:00", "*-*-*  00:00", "*-*-* 00:00 ", "00:00 *-*-*", "00:00 Mon", "*-*-* Mon", "Mon 00:00 *-*-*", "*-*-* *-*-*", "00:00 00:00", "Mon *-*-* 00:00:00 x", "Mon *-*-* 00:00:00 ",
		"*-*", "*-*-*-*", "-*-*", "*--*", "*-*-", "2024-01", "00", "00:", ":00", "00:00:", "::", "00:00:00:00", "0:0:0:0", "*-*-*:*", "*-*-*T00:00", "2024-01-01,00:00",
		"1969-*-*", "2201-*-*", "0-*-*", "*-0-*", "*-13-*", "*-*-0", "*-*-32", "24:00", "00:60", "00:00:60", "9999:00",
		"12345-*-*", "02024-*-*", "*-00001-*", "00000:00", "+1:00", "-1:00", "1.5:00", "0x1:00", "1e1:00", "1_0:00", "\u0661:00", "\uff11:00", "\xff:00", "a:00", ";:00", "1<:00", "2+:00", "2.:00", "00:0;", "197?-*-*", "*-*-1;",
		"1..:00", "..1:00", "..:00", "1...2:00", "1.2:00", "1..2..3:00", "2..1:00", "1..24:00", "*..2:00", "1..*:00", "*..*:00",
		"1/:00", "/1:00", "/:00", "1/0:00", "*/0:00", "1..2/0:00", "1..2/00:00", "1/24:00", "*/24:00", "1..2/24:00", "1/2/3:00", "*/2/2:00", "1//2:00", "1/2..3:00", "1/*:00", "*/*:00", "*/:00", "24/1:00", "1/12345:00", "**:00",
		"*,1:00", "1,*:00", "*,*:00", ",:00", "1,:00", ",1:00", "1,,2:00", "1, 2:00", "*-*/13-*", "*-*-*/32", "*/2201-*-*", "*:*/60", "*:*:*/60", "*-*/0-*",
		long + ":00", "00:" + long, "00:00:" + long, long + ",0:00", strings.Repeat(",", 1000), strings.Repeat(" ", 1000), strings.Repeat("-", 1000), strings.Repeat(":", 1000), strings.Repeat("9", 1000) + ":00",
		"00:00\n", "00:00\x00", "Mon\n00:00",
	} {
		if c, err := Parse(s); err != api.ErrCal || !reflect.DeepEqual(c, api.Calendar{}) {
			t.Errorf("Parse(%q): %v, %d", s, c, err)
		}
	}
}

// P3.3
func TestPrint(t *testing.T) {
	for _, x := range []struct {
		change func(*api.Calendar)
		want   string
	}{
		{func(c *api.Calendar) {}, "*-*-* 00:00:00"},
		{func(c *api.Calendar) { c.Hour, c.Minute, c.Second = anyPart, anyPart, anyPart }, "*-*-* *:*:*"},
		{func(c *api.Calendar) { c.Week = []api.Part{{From: 6, To: 6}, {From: 0, To: 4}, {From: 5, To: 5}} }, "Sun,Mon..Fri,Sat *-*-* 00:00:00"},
		{func(c *api.Calendar) { c.Week = []api.Part{{From: 1, To: 2}, {From: 3, To: 3}} }, "Tue..Wed,Thu *-*-* 00:00:00"},
		{func(c *api.Calendar) { c.Year, c.Month, c.Day = one(1970), one(2), one(31) }, "1970-02-31 00:00:00"},
		{func(c *api.Calendar) { c.Year = []api.Part{{From: 2000, To: 2100}, {From: 1999, To: 1999}} }, "2000..2100,1999-*-* 00:00:00"},
		{func(c *api.Calendar) { c.Year = []api.Part{{From: 2000, To: 2200, Step: 4}} }, "2000..2200/0004-*-* 00:00:00"},
		{func(c *api.Calendar) { c.Year = []api.Part{{From: 2000, To: 2000, Step: 2200}} }, "2000..2000/2200-*-* 00:00:00"},
		{func(c *api.Calendar) { c.Month = []api.Part{{From: 1, To: 12, Step: 12}} }, "*-01..12/12-* 00:00:00"},
		{func(c *api.Calendar) { c.Day = []api.Part{{From: 9, To: 10}, {From: 9, To: 9, Step: 1}} }, "*-*-09..10,09..09/01 00:00:00"},
		{func(c *api.Calendar) { c.Hour, c.Minute, c.Second = one(9), one(59), []api.Part{{To: 59, Step: 7}} }, "*-*-* 09:59:00..59/07"},
	} {
		c := daily()
		x.change(&c)
		if s, err := Print(c); err != api.OK || s != x.want {
			t.Errorf("%q, %d instead of %q", s, err, x.want)
		}
	}
}

// P3.4
func TestMatches(t *testing.T) {
	c := parse(t, "Mon,Thu 2024..2030/2-2,5-1..29 8..20/4:*:30")
	for _, x := range []struct {
		at   string
		want bool
	}{
		{"2024-02-29 08:00:30", true}, {"2024-02-29 20:59:30", true}, {"2024-05-20 12:07:30", true}, {"2030-02-28 16:00:30", true},
		{"2024-02-28 08:00:30", false}, {"2025-02-13 08:00:30", false}, {"2032-02-02 08:00:30", false}, {"2024-03-28 08:00:30", false}, {"2024-05-30 08:00:30", false},
		{"2024-02-29 09:00:30", false}, {"2024-02-29 00:00:30", false}, {"2024-02-29 08:00:31", false}, {"2024-02-29 21:00:30", false},
	} {
		if got := Matches(c, moment(unix(t, x.at))); got != x.want {
			t.Errorf("%s: %v", x.at, got)
		}
	}
	always := parse(t, "*-*-* *:*:*")
	good := api.Moment{Date: api.Date{Year: 2024, Month: 2, Day: 29}, Hour: 23, Minute: 59, Second: 59}
	if !Matches(always, good) || Matches(api.Calendar{}, good) {
		t.Error("the good one")
	}
	for i, spoil := range []func(*api.Moment){
		func(m *api.Moment) { m.Year = 2023 }, func(m *api.Moment) { m.Year = 1969 }, func(m *api.Moment) { m.Year = 2204 }, func(m *api.Moment) { m.Month = 0 }, func(m *api.Moment) { m.Month = 13 }, func(m *api.Moment) { m.Day = 0 }, func(m *api.Moment) { m.Day = 30 },
		func(m *api.Moment) { m.Hour = 24 }, func(m *api.Moment) { m.Hour = -1 }, func(m *api.Moment) { m.Minute = 60 }, func(m *api.Moment) { m.Minute = -1 }, func(m *api.Moment) { m.Second = 60 }, func(m *api.Moment) { m.Second = math.MinInt },
	} {
		m := good
		spoil(&m)
		if Matches(always, m) {
			t.Errorf("row %d: %v", i, m)
		}
	}
}

// P3.4
func TestNext(t *testing.T) {
	for _, x := range []struct{ in, from, want string }{
		{"*-02-29", "2024-02-29 00:00:00", "2028-02-29 00:00:00"},
		{"*-02-29", "2096-02-29 00:00:00", "2104-02-29 00:00:00"},
		{"daily", "2024-12-31 00:00:00", "2025-01-01 00:00:00"},
		{"daily", "2024-12-30 23:59:59", "2024-12-31 00:00:00"},
		{"12:30", "2024-02-28 12:29:59", "2024-02-28 12:30:00"},
		{"12:30", "2024-02-28 12:30:00", "2024-02-29 12:30:00"},
		{"*:*:*", "2024-02-28 23:59:59", "2024-02-29 00:00:00"},
		{"8,20:10,50:5,45", "2024-01-01 08:10:45", "2024-01-01 08:50:05"},
		{"8,20:10,50:5,45", "2024-01-01 08:50:45", "2024-01-01 20:10:05"},
		{"8,20:10,50:5,45", "2024-01-01 20:50:45", "2024-01-02 08:10:05"},
		{"8,20:10,50:5,45", "2024-01-01 19:59:59", "2024-01-01 20:10:05"},
		{"*-*-31", "2024-08-31 00:00:00", "2024-10-31 00:00:00"},
		{"*-3-15", "2024-04-01 00:00:00", "2025-03-15 00:00:00"},
		{"*-3-15 10:00", "2024-03-15 11:00:00", "2025-03-15 10:00:00"},
		{"2030-*-*", "2024-04-10 11:22:33", "2030-01-01 00:00:00"},
		{"Sun *-02-29", "2024-01-01 00:00:00", "2032-02-29 00:00:00"},
		{"Mon..Fri 08:00", "2024-05-17 08:00:00", "2024-05-20 08:00:00"},
		{"2200-12-31 23:59:59", "1970-01-01 00:00:00", "2200-12-31 23:59:59"},
		{"*:*:*", "2200-12-31 23:59:58", "2200-12-31 23:59:59"},
	} {
		if n, ok := Next(parse(t, x.in), unix(t, x.from)); !ok || n != unix(t, x.want) {
			t.Errorf("%s behind %s: %s, %v", x.in, x.from, time.Unix(n, 0).UTC(), ok)
		}
	}
}

// P3.4
func TestNextAtTheEdges(t *testing.T) {
	last := unix(t, "2200-12-31 23:59:59")
	for _, x := range []struct {
		in   string
		from int64
		want int64
		ok   bool
	}{
		{"daily", -1, 0, true}, {"daily", -2, 0, true}, {"daily", math.MinInt64, 0, true}, {"daily", 0, 86400, true}, {"12:00", math.MinInt64, 43200, true},
		{"*:*:*", last - 1, last, true}, {"*:*:*", last, 0, false}, {"*:*:*", last + 1, 0, false}, {"*:*:*", math.MaxInt64, 0, false}, {"*:*:*", math.MaxInt64 - 1, 0, false},
		{"daily", last - 86400, last - 86399, true}, {"daily", last - 86399, 0, false}, {"2000-01-01", 946684800, 0, false}, {"2000-01-01", 946684799, 946684800, true},
		{"*-02-30", -1, 0, false}, {"*-2,4,6,9,11-31", -1, 0, false}, {"Sun 2024-02-29", -1, 0, false}, {"1970-01-01", math.MinInt64, 0, true}, {"1970-01-01", 0, 0, false},
	} {
		if n, ok := Next(parse(t, x.in), x.from); ok != x.ok || n != x.want {
			t.Errorf("%s behind %d: %d, %v", x.in, x.from, n, ok)
		}
	}
}

// P3.4
func TestFromIsNextAndNext(t *testing.T) {
	for _, s := range []string{"daily", "Mon..Fri *-*-1,15,31 8,20:0/20:30", "*-02-29", "2024-*/5-* 12:00", "*:*:*", "2200-12-*", "*-02-30", "2199/1-12-31 23:59:58/1"} {
		c := parse(t, s)
		for _, from := range []int64{math.MinInt64, -1, 0, 1709164799, 1709164800, unix(t, "2200-12-31 23:59:57"), math.MaxInt64} {
			at, left := from, 200
			ended := true
			for n := range From(c, from) {
				want, ok := Next(c, at)
				if !ok || n != want || n <= at {
					t.Fatalf("%s from %d: %d instead of %d, %v", s, from, n, want, ok)
				}
				at = n
				if left--; left == 0 {
					ended = false
					break
				}
			}
			if n, ok := Next(c, at); ended && ok {
				t.Errorf("%s from %d: ended ahead of %d", s, from, n)
			}
		}
	}
}

// P3.4
func TestFromMayBeLeftAndGoneThroughAgain(t *testing.T) {
	row := From(parse(t, "2200-12-31 *:30"), -1)
	count := 0
	for a := range row {
		inner := 0
		for b := range row {
			if inner++; b > a {
				break
			}
		}
		if want := min(count+2, 24); inner != want {
			t.Fatalf("%d: %d instead of %d", count, inner, want)
		}
		count++
	}
	if count != 24 {
		t.Error(count)
	}
}

// P3.4, and DOC.md's third rule.
func TestListsAreNeitherChangedNorKept(t *testing.T) {
	c := parse(t, "Mon *-*-* 8:00:00")
	before := copyOf(c)
	Print(c)
	Next(c, 0)
	Matches(c, moment(0))
	From(c, 0)
	if !reflect.DeepEqual(c, before) {
		t.Error("changed")
	}
	want, _ := Next(c, 0)
	for _, p := range allPlaces() {
		c := parse(t, "Mon *-*-* 8:00:00")
		row := From(c, 0)
		(*p.list(&c))[0] = api.Part{From: -1, To: -1}
		if got, ok := first(row); !ok || got != want {
			t.Errorf("%s is kept: %d instead of %d", p.name, got, want)
		}
	}
}

// P3.2, and DOC.md's third rule: spare room too.
func TestAnswersShareNothing(t *testing.T) {
	for _, s := range []string{"daily", "Mon,Tue 1,2:3,4", "weekly"} {
		a, b := parse(t, s), parse(t, s)
		want := copyOf(b)
		for _, p := range allPlaces() {
			list := *p.list(&a)
			list = list[:cap(list)]
			for i := range list {
				list[i] = api.Part{From: 77}
			}
			for _, q := range allPlaces() {
				if p.name < q.name && len(*q.list(&a)) > 0 && len(list) > 0 && &(*q.list(&a))[0] == &list[0] {
					t.Errorf("%s: %s and %s", s, p.name, q.name)
				}
			}
		}
		if !reflect.DeepEqual(b, want) || !reflect.DeepEqual(parse(t, s), want) {
			t.Errorf("%s: touched", s)
		}
	}
}

func someCalendar(r *rand.Rand) api.Calendar {
	var c api.Calendar
	for _, p := range allPlaces() {
		week := p.name == "week"
		if week && r.Intn(2) == 0 {
			continue
		}
		if !week && r.Intn(3) == 0 {
			*p.list(&c) = []api.Part{{Any: true}}
			continue
		}
		for range 1 + r.Intn(api.MaxList) {
			from := p.lo + r.Intn(p.hi-p.lo+1)
			part := api.Part{From: from, To: from + r.Intn(p.hi-from+1)}
			if !week && r.Intn(2) == 0 {
				part.Step = r.Intn(p.hi + 1)
			}
			if r.Intn(3) == 0 {
				part.To = part.From
			}
			*p.list(&c) = append(*p.list(&c), part)
		}
	}
	return c
}

// P3.5
func TestParseOfPrint(t *testing.T) {
	r := rand.New(rand.NewSource(3))
	for range 5000 {
		c := someCalendar(r)
		s, err := Print(c)
		back, again := Parse(s)
		if !Is(c) || err != api.OK || again != api.OK || !reflect.DeepEqual(filled(back), filled(c)) {
			t.Fatalf("%v: %q, %v", c, s, back)
		}
	}
}

// P3.5: nothing between, and Matches by the library's own calendar.
func TestNothingMatchesBetween(t *testing.T) {
	r := rand.New(rand.NewSource(4))
	for range 1500 {
		c := someCalendar(r)
		from := r.Int63n(7289654400)
		n, ok := Next(c, from)
		if ok && (n <= from || !expected(c, n) || !Matches(c, moment(n))) {
			t.Fatalf("%v behind %d: %d", c, from, n)
		}
		if !ok {
			n = from + 100000
		}
		for range 300 {
			x := from + 1 + r.Int63n(max(n-from-1, 1))
			if x < n && x < 7289654400 && (expected(c, x) || Matches(c, moment(x))) {
				t.Fatalf("%v: %d lies between %d and %d", c, x, from, n)
			}
		}
		for x := from + 1; x < min(n, from+5000, 7289654400); x++ {
			if expected(c, x) {
				t.Fatalf("%v: %d lies between %d and %d", c, x, from, n)
			}
		}
	}
}

// P3.4: all days of all years against the library's own calendar.
func TestAllDays(t *testing.T) {
	for _, s := range []string{"*-*-*", "Tue,Sat *-2..11/3-29..31", "2000/7-*-1/5 00:00", "Wed 2100,2199-2,12-*"} {
		c := parse(t, s)
		var want []int64
		for x := int64(0); x < 7289654400; x += 86400 {
			if expected(c, x) {
				want = append(want, x)
			}
		}
		var got []int64
		for n := range From(c, -1) {
			got = append(got, n)
		}
		if !reflect.DeepEqual(got, want) {
			t.Errorf("%s: %d instead of %d", s, len(got), len(want))
		}
	}
}

// P3.1: is in, number by number.
func TestIsIn(t *testing.T) {
	for from := range 24 {
		for to := from; to < 24; to++ {
			for step := range 24 {
				c := daily()
				c.Hour = []api.Part{{From: from, To: to, Step: step}}
				for h := range 24 {
					m := api.Moment{Date: api.Date{Year: 2024, Month: 1, Day: 1}, Hour: h}
					if Matches(c, m) != partIsIn(c.Hour[0], h) {
						t.Fatalf("%d..%d/%d: %d", from, to, step, h)
					}
				}
			}
		}
	}
}

func FuzzParse(f *testing.F) {
	for _, s := range []string{"daily", "Mon..Fri *-*-* 08:00:00", "*/2-1,3..5/2-* *:0/15", "", strconv.Itoa(math.MaxInt)} {
		f.Add(s, int64(0))
	}
	f.Fuzz(func(t *testing.T, s string, from int64) {
		c, err := Parse(s)
		if err != api.OK {
			if err != api.ErrCal || !reflect.DeepEqual(c, api.Calendar{}) {
				t.Fatalf("%q: %v, %d", s, c, err)
			}
			return
		}
		text, err := Print(c)
		back, again := Parse(text)
		if err != api.OK || again != api.OK || !reflect.DeepEqual(filled(back), filled(c)) {
			t.Fatalf("%q: %q", s, text)
		}
		if n, ok := Next(c, from); ok && (n <= from || !expected(c, n)) {
			t.Fatalf("%q behind %d: %d", s, from, n)
		}
	})
}
