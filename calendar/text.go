package calendar

import (
	"strconv"
	"strings"

	"reveille/api"
)

const (
	weekdays      = "MonTueWedThuFriSatSun"
	weekdayLength = 3
	mostDigits    = 4
	yearDigits    = 4
	otherDigits   = 2
)

// spellOut: the expression for which a word stands; any other text as it is.
func spellOut(s string) string {
	switch s {
	case "minutely":
		return "*-*-* *:*:00"
	case "hourly":
		return "*-*-* *:00:00"
	case "daily":
		return "*-*-* 00:00:00"
	case "weekly":
		return "Mon *-*-* 00:00:00"
	case "monthly":
		return "*-*-01 00:00:00"
	case "yearly":
		return "*-01-01 00:00:00"
	}
	return s
}

// parseFields: what [week] [date] [time] tells; its numbers may still be out of their bounds.
func parseFields(s string) (api.Calendar, bool) {
	words := splitUpTo(s, " ", 3)
	date, clock := "*-*-*", "00:00:00"
	var c api.Calendar
	if week, ok := parseList(words[0], parseWeekdays); ok {
		c.Week, words = week, words[1:]
	}
	if len(words) > 0 && strings.Contains(words[0], "-") {
		date, words = words[0], words[1:]
	}
	if len(words) > 0 && strings.Contains(words[0], ":") {
		clock, words = words[0], words[1:]
	}
	ok := len(words) == 0 && parseDate(&c, date) && parseClock(&c, clock)
	return c, ok
}

func parseDate(c *api.Calendar, s string) bool {
	texts := splitUpTo(s, "-", 3)
	if len(texts) != 3 {
		return false
	}
	return parseNumbers(&c.Year, texts[0], limits[year]) &&
		parseNumbers(&c.Month, texts[1], limits[month]) &&
		parseNumbers(&c.Day, texts[2], limits[day])
}

func parseClock(c *api.Calendar, s string) bool {
	texts := splitUpTo(s, ":", 3)
	if len(texts) == 2 {
		texts = append(texts, "00")
	}
	if len(texts) != 3 {
		return false
	}
	return parseNumbers(&c.Hour, texts[0], limits[hour]) &&
		parseNumbers(&c.Minute, texts[1], limits[minute]) &&
		parseNumbers(&c.Second, texts[2], limits[second])
}

func parseNumbers(list *[]api.Part, s string, b bounds) bool {
	if s == "*" {
		*list = []api.Part{{Any: true}}
		return true
	}
	parts, ok := parseList(s, func(text string) (api.Part, bool) { return parsePart(text, b) })
	*list = parts
	return ok
}

// parseList: the parts with commas between.
func parseList(s string, parse func(string) (api.Part, bool)) ([]api.Part, bool) {
	texts := splitUpTo(s, ",", api.MaxList)
	list := make([]api.Part, 0, api.MaxList)
	for _, text := range texts {
		p, ok := parse(text)
		if !ok {
			return nil, false
		}
		list = append(list, p)
	}
	return list, true
}

// parseWeekdays: a day of the week, or two with `..` between.
func parseWeekdays(s string) (api.Part, bool) {
	from, to, ranged := strings.Cut(s, "..")
	if !ranged {
		to = from
	}
	a, okA := parseWeekday(from)
	b, okB := parseWeekday(to)
	return api.Part{From: a, To: b}, okA && okB
}

func parseWeekday(s string) (int, bool) {
	at := strings.Index(weekdays, s)
	return at / weekdayLength, len(s) == weekdayLength && at >= 0 && at%weekdayLength == 0
}

// parsePart: a part that isn't `*`.
func parsePart(s string, b bounds) (api.Part, bool) {
	row, step, stepped := strings.Cut(s, "/")
	p, ok := parseRow(row, stepped, b)
	if !ok || !stepped {
		return p, ok
	}
	p.Step, ok = parseNumber(step)
	return p, ok && p.Step > 0
}

// parseRow: what stands ahead of a step, or alone.
func parseRow(s string, stepped bool, b bounds) (api.Part, bool) {
	if s == "*" {
		return api.Part{From: b.lo, To: b.hi}, stepped
	}
	from, to, ranged := strings.Cut(s, "..")
	a, ok := parseNumber(from)
	if ranged {
		z, okZ := parseNumber(to)
		return api.Part{From: a, To: z}, ok && okZ
	}
	if stepped {
		return api.Part{From: a, To: b.hi}, ok
	}
	return api.Part{From: a, To: a}, ok
}

// parseNumber: one to four digits.
func parseNumber(s string) (int, bool) {
	if len(s) < 1 || len(s) > mostDigits {
		return 0, false
	}
	n := 0
	for i := range len(s) {
		if s[i] < '0' || s[i] > '9' {
			return 0, false
		}
		n = 10*n + int(s[i]-'0')
	}
	return n, true
}

// splitUpTo: the pieces between separators; of more than most of them one too many, which keeps the separators: so a long text isn't cut up in vain.
func splitUpTo(s, separator string, most int) []string {
	return strings.SplitN(s, separator, most+1)
}

func printWeek(list []api.Part) string {
	texts := make([]string, 0, len(list))
	for _, p := range list {
		text := printWeekday(p.From)
		if p.To != p.From {
			text += ".." + printWeekday(p.To)
		}
		texts = append(texts, text)
	}
	return strings.Join(texts, ",")
}

func printWeekday(n int) string {
	return weekdays[n*weekdayLength : (n+1)*weekdayLength]
}

func printList(list []api.Part, digits int) string {
	texts := make([]string, 0, len(list))
	for _, p := range list {
		texts = append(texts, printPart(p, digits))
	}
	return strings.Join(texts, ",")
}

func printPart(p api.Part, digits int) string {
	if p.Any {
		return "*"
	}
	text := padded(p.From, digits)
	if p.To != p.From || p.Step != 0 {
		text += ".." + padded(p.To, digits)
	}
	if p.Step != 0 {
		text += "/" + padded(p.Step, digits)
	}
	return text
}

// padded: a number that has at most so many digits, with zeros ahead.
func padded(n, digits int) string {
	text := strconv.Itoa(n)
	return strings.Repeat("0", digits-len(text)) + text
}
