package setting

import (
	"slices"
	"strconv"

	"reveille/api"
	"reveille/calendar"
	"reveille/line"
	"reveille/name"
	"reveille/span"
)

const (
	mostDigits = 6
	mostStarts = 100
)

// value: what stands behind a key, and the unit for which its specifiers stand.
type value struct{ text, unit string }

// read lays a value of whatever type into its field; one that can't be leaves the field as it was.
func read[T any](field *T, v value, as func(string) (T, api.Errno)) api.Errno {
	text, err := name.Expand(v.text, v.unit)
	if err != api.OK {
		return err
	}
	meant, err := as(text)
	if err != api.OK {
		return err
	}
	*field = meant
	return api.OK
}

// add lays the elements of a value behind those of its field, all of them or none.
func add(field *[]string, v value, as func(string) ([]string, api.Errno)) api.Errno {
	return read(field, v, behind(*field, as))
}

// only: reads as it does, but takes just what fits.
func only[T any](as func(string) (T, api.Errno), fits func(T) bool) func(string) (T, api.Errno) {
	return func(text string) (T, api.Errno) {
		meant, err := as(text)
		if err == api.OK && !fits(meant) {
			err = api.ErrSetting
		}
		return meant, err
	}
}

// behind: reads the elements of a list and, behind them, those of a value.
func behind(list []string, as func(string) ([]string, api.Errno)) func(string) ([]string, api.Errno) {
	return func(text string) ([]string, api.Errno) {
		more, err := as(text)
		if err != api.OK {
			return nil, err
		}
		if len(list)+len(more) > api.MaxList || !areAll(more, isShort) {
			return nil, api.ErrSetting
		}
		return slices.Concat(list, more), api.OK
	}
}

func asNames(text string) ([]string, api.Errno) {
	return only(line.Split, areNames)(text)
}

func asPaths(text string) ([]string, api.Errno) {
	return only(line.Split, arePaths)(text)
}

// asCommand: the value itself, as one element; an empty one comes of specifiers that stand for nothing.
func asCommand(text string) ([]string, api.Errno) {
	if text == "" {
		return nil, api.ErrSetting
	}
	return []string{text}, api.OK
}

// asCalendar: the value itself, as one element.
func asCalendar(text string) ([]string, api.Errno) {
	if _, err := calendar.Parse(text); err != api.OK {
		return nil, err
	}
	return []string{text}, api.OK
}

func asWord(text string) (string, api.Errno) {
	words, err := line.Split(text)
	if err != api.OK {
		return "", err
	}
	if len(words) != 1 {
		return "", api.ErrSetting
	}
	return words[0], api.OK
}

func asName(text string) (string, api.Errno) { return only(asWord, name.Is)(text) }

func asNumber(text string) (int, api.Errno) {
	n, err := strconv.ParseUint(text, 10, 32) // it takes no sign
	if err != nil || len(text) > mostDigits {
		return 0, api.ErrSetting
	}
	return int(n), api.OK
}

// asWatchdog: a span, but none for one that never elapses.
func asWatchdog(text string) (int64, api.Errno) {
	seconds, err := span.Parse(text)
	if seconds == api.Forever {
		seconds = 0
	}
	return seconds, err
}

func asTruth(text string) (bool, api.Errno) {
	switch text {
	case "yes", "true", "1":
		return true, api.OK
	case "no", "false", "0":
		return false, api.OK
	}
	return false, api.ErrSetting
}

// asDenial: the opposite of a truth.
func asDenial(text string) (bool, api.Errno) {
	truth, err := asTruth(text)
	return !truth, err
}

func asType(text string) (int, api.Errno) {
	switch text {
	case "simple":
		return api.Simple, api.OK
	case "exec":
		return api.Exec, api.OK
	case "forking":
		return api.Forking, api.OK
	case "oneshot":
		return api.Oneshot, api.OK
	case "notify":
		return api.Notify, api.OK
	}
	return 0, api.ErrSetting
}

func asRestart(text string) (int, api.Errno) {
	switch text {
	case "no":
		return api.Never, api.OK
	case "on-failure":
		return api.OnFailure, api.OK
	case "always":
		return api.Always, api.OK
	}
	return 0, api.ErrSetting
}

func asKillMode(text string) (int, api.Errno) {
	switch text {
	case "control-group":
		return api.KillGroup, api.OK
	case "process":
		return api.KillMain, api.OK
	case "none":
		return api.KillNone, api.OK
	}
	return 0, api.ErrSetting
}

func areNames(words []string) bool { return areAll(words, name.Is) }

func arePaths(words []string) bool { return areAll(words, isPath) }

func areAll(texts []string, fits func(string) bool) bool {
	for _, text := range texts {
		if !fits(text) {
			return false
		}
	}
	return true
}

func isShort(text string) bool { return len(text) <= api.MaxText }

func isPath(text string) bool {
	_, err := name.OfPath(text)
	return err == api.OK
}

func isService(text string) bool { return name.Kind(text) == api.Service }

func isBurst(n int) bool { return n <= mostStarts }
