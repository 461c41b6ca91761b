package civil

import (
	"iter"
	"math"
	"math/big"
	"math/rand"
	"slices"
	"testing"
	"time"

	"reveille/api"
)

const (
	layout   = "2006-01-02 15:04:05"
	dayCount = 84371 // from 1970-01-01 to 2200-12-31, both counted
	endTime  = int64(dayCount) * 86400
)

func date(year, month, day int) api.Date { return api.Date{Year: year, Month: month, Day: day} }

func moment(d api.Date, hour, minute, second int) api.Moment {
	return api.Moment{Date: d, Hour: hour, Minute: minute, Second: second}
}

// extremes: whatever an int may be, around the numbers at which dates and times turn.
func extremes() []int {
	out := []int{math.MinInt, math.MinInt + 1, math.MinInt32, math.MaxInt32, math.MaxInt - 1, math.MaxInt, math.MinInt + 1970, math.MaxInt/12 + 1}
	for _, n := range []int{0, 12, 24, 28, 31, 60, 100, 400, 1900, 1970, 2000, 2024, 2100, 2200, 84371} {
		for d := -2; d <= 2; d++ {
			out = append(out, n+d, -n+d)
		}
	}
	return out
}

// asTime: the date by the library, which carries what is too much over into the next month.
func asTime(d api.Date) time.Time {
	return time.Date(d.Year, time.Month(d.Month), d.Day, 0, 0, 0, 0, time.UTC)
}

func fromTime(u time.Time) api.Moment {
	return moment(date(u.Year(), int(u.Month()), u.Day()), u.Hour(), u.Minute(), u.Second())
}

// wantedIs: what P2.1 asks; a date that isn't one doesn't come back as itself from the library.
func wantedIs(d api.Date) bool {
	if d.Year < 1970 || d.Year > 2200 || d.Month < 1 || d.Month > 12 || d.Day < 1 || d.Day > 31 {
		return false
	}
	return fromTime(asTime(d)).Date == d
}

func isDays(t *testing.T, d api.Date) {
	t.Helper()
	n, err := Days(d)
	if !wantedIs(d) {
		if n != 0 || err != api.ErrDate {
			t.Errorf("Days(%v) = %d, %d, not ErrDate", d, n, err)
		}
		return
	}
	if want := int(asTime(d).Unix() / 86400); n != want || err != api.OK {
		t.Errorf("Days(%v) = %d, %d, not %d", d, n, err, want)
	}
}

func TestIsOfAllDates(t *testing.T) { // P2.1
	count := 0
	for year := 1965; year <= 2205; year++ {
		for month := -1; month <= 14; month++ {
			for day := -1; day <= 33; day++ {
				d := date(year, month, day)
				if got := Is(d); got != wantedIs(d) {
					t.Fatalf("Is(%v) = %v", d, got)
				}
				if Is(d) {
					count++
				}
			}
		}
	}
	if count != dayCount {
		t.Errorf("%d dates, not %d", count, dayCount)
	}
}

func TestIsOfLeapDays(t *testing.T) { // P2.1
	for year, want := range map[int]bool{1970: false, 1972: true, 1999: false, 2000: true, 2023: false, 2024: true, 2100: false, 2104: true, 2196: true, 2200: false, 1968: false, 2204: false, 1600: false, 2400: false} {
		if got := Is(date(year, 2, 29)); got != want {
			t.Errorf("Is(%d-02-29) = %v", year, got)
		}
	}
}

func TestDatesOfExtremes(t *testing.T) { // P2.1, P2.2
	for _, year := range extremes() {
		for _, month := range extremes() {
			for _, day := range extremes() {
				d := date(year, month, day)
				if got := Is(d); got != wantedIs(d) {
					t.Fatalf("Is(%v) = %v", d, got)
				}
				isDays(t, d)
			}
		}
	}
}

func TestDays(t *testing.T) { // P2.2
	for _, c := range []struct {
		d    api.Date
		days int
	}{{date(1970, 1, 1), 0}, {date(1970, 1, 2), 1}, {date(1970, 12, 31), 364}, {date(1971, 1, 1), 365}, {date(1972, 12, 31), 1095}, {date(1973, 1, 1), 1096}, {date(2000, 3, 1), 11017}, {date(2024, 2, 29), 19782}, {date(2100, 2, 28), 47540}, {date(2100, 3, 1), 47541}, {date(2200, 12, 31), dayCount - 1}} {
		if n, err := Days(c.d); n != c.days || err != api.OK {
			t.Errorf("Days(%v) = %d, %d, not %d", c.d, n, err, c.days)
		}
		if d, err := Date(c.days); d != c.d || err != api.OK {
			t.Errorf("Date(%d) = %v, %d, not %v", c.days, d, err, c.d)
		}
	}
	for _, d := range []api.Date{{}, date(1969, 12, 31), date(2201, 1, 1), date(2023, 2, 29), date(2024, 2, 30), date(2024, 4, 31), date(2024, 0, 1), date(2024, 13, 1), date(2024, 1, 0), date(2024, 1, 32), date(-2024, 1, 1)} {
		if n, err := Days(d); n != 0 || err != api.ErrDate {
			t.Errorf("Days(%v) = %d, %d, not ErrDate", d, n, err)
		}
	}
}

func TestDate(t *testing.T) { // P2.2
	days := extremes()
	for n := -800; n <= dayCount+800; n++ {
		days = append(days, n)
	}
	for _, n := range days {
		d, err := Date(n)
		if n < 0 || n >= dayCount {
			if d != (api.Date{}) || err != api.ErrDate {
				t.Fatalf("Date(%d) = %v, %d, not ErrDate", n, d, err)
			}
			continue
		}
		if want := fromTime(time.Unix(int64(n)*86400, 0).UTC()).Date; d != want || err != api.OK {
			t.Fatalf("Date(%d) = %v, %d, not %v", n, d, err, want)
		}
	}
}

func TestWeekday(t *testing.T) { // P2.2
	for n, want := range map[int]int{0: 3, 1: 4, 3: 6, 4: 0, 7: 3, -1: 2, -3: 0, -4: 6, -7: 3, 19782: 3, dayCount - 1: 2} {
		if got := Weekday(n); got != want {
			t.Errorf("Weekday(%d) = %d, not %d", n, got, want)
		}
	}
	days := extremes()
	for n := -1000; n <= dayCount+1000; n++ {
		days = append(days, n)
	}
	for _, n := range days {
		sum := new(big.Int).Add(big.NewInt(int64(n)), big.NewInt(3))
		if want := int(sum.Mod(sum, big.NewInt(7)).Int64()); Weekday(n) != want {
			t.Errorf("Weekday(%d) = %d, not %d", n, Weekday(n), want)
		}
	}
}

func TestUnix(t *testing.T) { // P2.3
	leap := date(2024, 2, 29)
	for _, c := range []struct {
		m api.Moment
		t int64
	}{{moment(date(1970, 1, 1), 0, 0, 0), 0}, {moment(date(1970, 1, 1), 23, 59, 59), 86399}, {moment(leap, 8, 5, 0), 1709193900}, {moment(date(2038, 1, 19), 3, 14, 8), 1 << 31}, {moment(date(2200, 12, 31), 23, 59, 59), endTime - 1}} {
		if n, err := Unix(c.m); n != c.t || err != api.OK {
			t.Errorf("Unix(%v) = %d, %d, not %d", c.m, n, err, c.t)
		}
		if m, err := Moment(c.t); m != c.m || err != api.OK {
			t.Errorf("Moment(%d) = %v, %d, not %v", c.t, m, err, c.m)
		}
	}
	for _, m := range wrongMoments() {
		if n, err := Unix(m); n != 0 || err != api.ErrDate {
			t.Errorf("Unix(%v) = %d, %d, not ErrDate", m, n, err)
		}
	}
}

// wrongMoments: each has one fault at least.
func wrongMoments() []api.Moment {
	leap := date(2024, 2, 29)
	out := []api.Moment{{}, {Hour: 1}, moment(date(2023, 2, 29), 0, 0, 0), moment(date(1969, 12, 31), 23, 59, 59), moment(date(2201, 1, 1), 0, 0, 0), moment(leap, 23, 59, 60), moment(leap, 24, 0, 0), moment(leap, -1, 60, 0), moment(leap, 1, -1, 60)}
	for _, n := range extremes() {
		if n < 0 || n > 23 {
			out = append(out, moment(leap, n, 0, 0))
		}
		if n < 0 || n > 59 {
			out = append(out, moment(leap, 0, n, 0), moment(leap, 0, 0, n))
		}
	}
	return out
}

func TestUnixOfAllTimes(t *testing.T) { // P2.3
	d := date(2000, 2, 29)
	next := int64(11016) * 86400
	for hour := -1; hour <= 24; hour++ {
		for minute := -1; minute <= 60; minute++ {
			for second := -1; second <= 60; second++ {
				m := moment(d, hour, minute, second)
				n, err := Unix(m)
				if hour < 0 || hour > 23 || minute < 0 || minute > 59 || second < 0 || second > 59 {
					if n != 0 || err != api.ErrDate {
						t.Fatalf("Unix(%v) = %d, %d, not ErrDate", m, n, err)
					}
					continue
				}
				if back, e := Moment(n); n != next || err != api.OK || back != m || e != api.OK {
					t.Fatalf("Unix(%v) = %d, %d, not %d; back %v, %d", m, n, err, next, back, e)
				}
				next++
			}
		}
	}
}

func TestMoment(t *testing.T) { // P2.3
	times := []int64{math.MinInt64, -endTime, -86400, -2, -1, 0, 1, endTime - 86400, endTime - 1, endTime, endTime + 1, 1 << 32, 1 << 33, 1<<32*86400 + 5, math.MaxInt64 - 1, math.MaxInt64}
	r := rand.New(rand.NewSource(2))
	for range 20000 {
		times = append(times, r.Int63n(endTime), r.Int63n(2*endTime)-endTime/2, r.Int63()-r.Int63(), r.Int63n(dayCount)*86400-int64(r.Intn(2)))
	}
	for _, n := range times {
		m, err := Moment(n)
		if n < 0 || n >= endTime {
			if m != (api.Moment{}) || err != api.ErrDate {
				t.Fatalf("Moment(%d) = %v, %d, not ErrDate", n, m, err)
			}
			continue
		}
		if want := fromTime(time.Unix(n, 0).UTC()); m != want || err != api.OK {
			t.Fatalf("Moment(%d) = %v, %d, not %v", n, m, err, want)
		}
		if back, e := Unix(m); back != n || e != api.OK {
			t.Fatalf("Unix(%v) = %d, %d, not %d", m, back, e, n)
		}
	}
}

func TestMonth(t *testing.T) { // P2.4
	for year := 1968; year <= 2202; year++ {
		for month := -1; month <= 14; month++ {
			var want []api.Date
			for day := 1; wantedIs(date(year, month, day)); day++ {
				want = append(want, date(year, month, day))
			}
			if got := slices.Collect(Month(year, month)); !slices.Equal(got, want) {
				t.Fatalf("Month(%d, %d) = %v", year, month, got)
			}
		}
	}
	for _, year := range extremes() {
		for _, month := range extremes() {
			dates := Month(year, month)
			if dates == nil {
				t.Fatalf("Month(%d, %d) is nil", year, month)
			}
			for d := range dates {
				if !wantedIs(d) || d.Year != year || d.Month != month {
					t.Fatalf("Month(%d, %d) gives %v", year, month, d)
				}
			}
		}
	}
}

// firstOf: the first count dates, left behind them.
func firstOf(dates iter.Seq[api.Date], count int) []api.Date {
	var out []api.Date
	for d := range dates {
		if out = append(out, d); len(out) == count {
			break
		}
	}
	return out
}

func TestMonthLeftAndAgain(t *testing.T) { // P2.4
	dates := Month(2024, 2)
	all := slices.Collect(dates)
	for count := 1; count <= 29; count++ {
		if got := firstOf(dates, count); !slices.Equal(got, all[:count]) {
			t.Errorf("the first %d: %v", count, got)
		}
	}
	inner := 0
	for range dates {
		inner += len(slices.Collect(dates))
	}
	if len(all) != 29 || inner != 29*29 {
		t.Errorf("gone through while it is gone through: %d", inner)
	}
}

func TestPrint(t *testing.T) { // P2.4
	for want, m := range map[string]api.Moment{"2024-02-29 08:05:00": moment(date(2024, 2, 29), 8, 5, 0), "1970-01-01 00:00:00": moment(date(1970, 1, 1), 0, 0, 0), "2200-12-31 23:59:59": moment(date(2200, 12, 31), 23, 59, 59), "2099-10-09 10:09:10": moment(date(2099, 10, 9), 10, 9, 10)} {
		if got := Print(m); got != want {
			t.Errorf("Print(%v) = %q, not %q", m, got, want)
		}
	}
	for _, m := range wrongMoments() {
		if got := Print(m); got != "" {
			t.Errorf("Print(%v) = %q, not empty", m, got)
		}
	}
	r := rand.New(rand.NewSource(4))
	for range 20000 {
		u := time.Unix(r.Int63n(endTime), 0).UTC()
		if got := Print(fromTime(u)); got != u.Format(layout) {
			t.Fatalf("Print of %v = %q", u, got)
		}
	}
}

func TestDaysAndDatesToAndFro(t *testing.T) { // P2.5
	next := 0
	for year := 1970; year <= 2200; year++ {
		for month := 1; month <= 12; month++ {
			for d := range Month(year, month) {
				isDays(t, d)
				n, err := Days(d)
				if n != next || err != api.OK {
					t.Fatalf("Days(%v) = %d, %d, not %d", d, n, err, next)
				}
				if back, e := Date(n); back != d || e != api.OK {
					t.Fatalf("Date(%d) = %v, %d, not %v", n, back, e, d)
				}
				if want := (int(asTime(d).Weekday()) + 6) % 7; Weekday(n) != want {
					t.Fatalf("Weekday(%d) = %d, not %d", n, Weekday(n), want)
				}
				next++
			}
		}
	}
	if next != dayCount {
		t.Errorf("%d days, not %d", next, dayCount)
	}
}

func FuzzMoment(f *testing.F) { // P2.3, P2.4, P2.5
	for _, n := range []int64{-1, 0, 1709193900, endTime - 1, endTime} {
		f.Add(n)
	}
	f.Fuzz(func(t *testing.T, n int64) {
		m, err := Moment(n)
		back, e := Unix(m)
		if n < 0 || n >= endTime {
			if m != (api.Moment{}) || err != api.ErrDate || e != api.ErrDate || Print(m) != "" {
				t.Errorf("Moment(%d) = %v, %d", n, m, err)
			}
			return
		}
		if err != api.OK || back != n || e != api.OK || Print(m) != time.Unix(n, 0).UTC().Format(layout) {
			t.Errorf("Moment(%d) = %v, %d; back %d, %d", n, m, err, back, e)
		}
	})
}
