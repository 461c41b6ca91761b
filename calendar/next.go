package calendar

import (
	"iter"

	"reveille/api"
	"reveille/civil"
)

// timesAbove: the times above t whose moments match, rising; c is an expression.
func timesAbove(c api.Calendar, t int64) iter.Seq[int64] {
	return func(yield func(int64) bool) {
		from := max(t, -1) + 1 // of the greatest t this wraps round to what is no moment
		start, err := civil.Moment(from)
		if err != api.OK {
			return
		}
		for days := range daysSince(c, start.Date) {
			midnight := int64(days) * secondsPerDay
			for seconds := range secondsSince(c, int(max(from-midnight, 0))) {
				if !yield(midnight + int64(seconds)) {
					return
				}
			}
		}
	}
}

// daysSince: the days that match, by their numbers, from a date on, rising.
func daysSince(c api.Calendar, start api.Date) iter.Seq[int] {
	return func(yield func(int) bool) {
		from, _ := civil.Days(start)
		for y := range numbers(c.Year, start.Year, limits[year].hi) {
			firstMonth := limits[month].lo
			if y == start.Year {
				firstMonth = start.Month
			}
			for m := range numbers(c.Month, firstMonth, limits[month].hi) {
				for date := range pick(civil.Month(y, m), func(d api.Date) bool { return isIn(c.Day, d.Day) }) {
					days, _ := civil.Days(date)
					if days >= from && isOnWeek(c.Week, days) && !yield(days) {
						return
					}
				}
			}
		}
	}
}

// secondsSince: the times of a day that match, as seconds from midnight on, none below from, rising.
func secondsSince(c api.Calendar, from int) iter.Seq[int] {
	return func(yield func(int) bool) {
		for h := range numbers(c.Hour, from/3600, limits[hour].hi) {
			hourBegins := h * 3600
			for m := range numbers(c.Minute, max(from-hourBegins, 0)/60, limits[minute].hi) {
				minuteBegins := hourBegins + m*60
				for s := range numbers(c.Second, max(from-minuteBegins, 0), limits[second].hi) {
					if !yield(minuteBegins + s) {
						return
					}
				}
			}
		}
	}
}

// numbers: the numbers from lo to hi that are in a list, rising.
func numbers(list []api.Part, lo, hi int) iter.Seq[int] {
	return pick(between(lo, hi), func(n int) bool { return isIn(list, n) })
}

func between(lo, hi int) iter.Seq[int] {
	return func(yield func(int) bool) {
		for n := lo; n <= hi; n++ {
			if !yield(n) {
				return
			}
		}
	}
}

// pick: those of a row that are good.
func pick[T any](row iter.Seq[T], good func(T) bool) iter.Seq[T] {
	return func(yield func(T) bool) {
		for x := range row {
			if good(x) && !yield(x) {
				return
			}
		}
	}
}

// first: the first one of a row; false, if it is empty.
func first[T any](row iter.Seq[T]) (T, bool) {
	for x := range row {
		return x, true
	}
	var none T
	return none, false
}
