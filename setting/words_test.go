package setting

import (
	"math/rand"
	"reflect"
	"regexp"
	"slices"
	"strconv"
	"strings"
	"testing"

	"reveille/api"
	"reveille/calendar"
	"reveille/line"
	"reveille/name"
	"reveille/span"
	"reveille/unitfile"
)

// ownSections: by the kind of a unit its section beside `Unit`.
var ownSections = map[string]string{"Service": "Service", "Socket": "Socket", "Timer": "Timer", "Path": "Path", "Mount": "Mount", "Target": "Unit"}

// keyOf: a key of P7.3: of what sort its values are (of a choice: its words), and which field they are of.
type keyOf struct{ section, key, sort, field string }

var keys = []keyOf{
	{"Unit", "Wants", "names", "Wants"}, {"Unit", "Requires", "names", "Requires"}, {"Unit", "BindsTo", "names", "BindsTo"},
	{"Unit", "PartOf", "names", "PartOf"}, {"Unit", "Conflicts", "names", "Conflicts"}, {"Unit", "After", "names", "After"},
	{"Unit", "Before", "names", "Before"}, {"Unit", "DefaultDependencies", "denial", "Plain"},
	{"Service", "Type", "simple|exec|forking|oneshot|notify", "Type"}, {"Service", "ExecStartPre", "command", "Pre"},
	{"Service", "ExecStart", "command", "Start"}, {"Service", "ExecStop", "command", "Stop"},
	{"Service", "Restart", "no|on-failure|always", "Restart"}, {"Service", "RestartSec", "span", "RestartSec"},
	{"Service", "TimeoutStartSec", "span", "StartSec"}, {"Service", "TimeoutStopSec", "span", "StopSec"},
	{"Service", "WatchdogSec", "watchdog", "Watchdog"}, {"Service", "StartLimitIntervalSec", "span", "Interval"},
	{"Service", "StartLimitBurst", "burst", "Burst"}, {"Service", "KillMode", "control-group|process|none", "KillMode"},
	{"Service", "RemainAfterExit", "truth", "Remain"},
	{"Socket", "ListenStream", "word", "Listen"}, {"Socket", "Service", "service", "Target"},
	{"Timer", "OnBootSec", "span", "Boot"}, {"Timer", "OnUnitActiveSec", "span", "Active"},
	{"Timer", "OnCalendar", "calendar", "Calendars"}, {"Timer", "Unit", "name", "Target"},
	{"Path", "PathExists", "paths", "Exists"}, {"Path", "PathChanged", "paths", "Changed"}, {"Path", "Unit", "name", "Target"},
	{"Mount", "What", "word", "What"}, {"Mount", "Where", "path", "Where"},
}

var (
	truthPattern  = regexp.MustCompile(`\A(?:(yes|true|1)|(no|false|0))\z`)
	numberPattern = regexp.MustCompile(`\A[0-9]{1,6}\z`)
)

func isWantedPath(s string) bool {
	_, err := name.OfPath(s)
	return err == 0
}

// wantedFit: what each word of a value of that sort must be; nil, if it isn't read by words.
func wantedFit(sort string) func(string) bool {
	switch sort {
	case "names", "name":
		return name.Is
	case "paths":
		return isWantedPath
	case "path":
		return func(s string) bool { return isWantedPath(s) && len(s) <= 200 }
	case "word":
		return func(s string) bool { return len(s) <= 200 }
	case "service":
		return func(s string) bool { return name.Is(s) && strings.HasSuffix(s, ".service") }
	}
	return nil
}

// wantedWords: what a text of that sort is as a list, each of them as it must be.
func wantedWords(sort, text string) ([]string, api.Errno) {
	if fits := wantedFit(sort); fits != nil {
		words, err := line.Split(text)
		if err == 0 && slices.ContainsFunc(words, func(s string) bool { return !fits(s) }) {
			err = 70
		}
		return words, err
	}
	if sort == "calendar" {
		_, err := calendar.Parse(text)
		return []string{text}, err
	}
	if text == "" {
		return nil, 70
	}
	return []string{text}, 0
}

// wantedValue: what a text of that sort lays into a field that is old, by P7.2's and P7.3's words.
func wantedValue(sort, text string, old any) (any, api.Errno) {
	switch sort {
	case "span", "watchdog":
		n, err := span.Parse(text)
		if sort == "watchdog" && n == 1<<63-1 {
			n = 0
		}
		return n, err
	case "truth", "denial":
		m := truthPattern.FindStringSubmatch(text)
		if m == nil {
			return nil, 70
		}
		return (m[1] != "") == (sort == "truth"), 0
	case "burst":
		n, _ := strconv.Atoi(text)
		if !numberPattern.MatchString(text) || n > 100 {
			return nil, 70
		}
		return n, 0
	}
	if choices := strings.Split(sort, "|"); len(choices) > 1 {
		if i := slices.Index(choices, text); i >= 0 {
			return i + 1, 0
		}
		return nil, 70
	}
	words, err := wantedWords(sort, text)
	if err != 0 {
		return nil, err
	}
	list, isList := old.([]string)
	if !isList {
		if len(words) != 1 {
			return nil, 70
		}
		return words[0], 0
	}
	list = append(slices.Clone(list), words...)
	if len(list) > 12 || slices.ContainsFunc(words, func(s string) bool { return len(s) > 200 }) {
		return nil, 70
	}
	return list, 0
}

// wantedLoad: P7.2 to P7.4 by their words, over a table of the keys.
func wantedLoad(unit string, texts []string) (api.Unit, []api.Report) {
	u := Blank(unit)
	if !name.Is(unit) || len(texts) == 0 {
		return u, nil
	}
	var files []api.File
	var reports []api.Report
	for i, text := range texts {
		f, number, err := unitfile.Parse(text)
		if err == 0 {
			files = append(files, f)
		} else {
			reports = append(reports, api.Report{File: i, Number: number, Err: err})
		}
	}
	erred := len(reports) > 0
	kind := unit[strings.LastIndex(unit, ".")+1:]
	for place, s := range unitfile.Merge(files).Settings {
		at := slices.IndexFunc(keys, func(k keyOf) bool { return k.section == s.Section && k.key == s.Key })
		if at < 0 || s.Section != "Unit" && strings.ToLower(s.Section) != kind {
			continue
		}
		field := reflect.ValueOf(&u).Elem().FieldByName(keys[at].field)
		text, err := name.Expand(s.Value, unit)
		var v any
		if err == 0 {
			v, err = wantedValue(keys[at].sort, text, field.Interface())
		}
		if err == 0 {
			field.Set(reflect.ValueOf(v))
		} else {
			reports = append(reports, api.Report{File: 0, Number: place, Err: err})
		}
	}
	u.Load = 3
	if !erred && wantedLoaded(u) {
		u.Load = 1
	}
	return u, reports
}

// wantedLoaded: P7.4 by its words, the texts aside.
func wantedLoaded(u api.Unit) bool {
	path, _ := name.OfPath(u.Where)
	switch u.Kind {
	case 1:
		if u.Type == 4 && u.Restart == 3 {
			return false
		}
		return len(u.Start) == 1 || u.Type == 4 && (len(u.Start) > 1 || len(u.Start) == 0 && len(u.Stop) > 0)
	case 2:
		return u.Listen != ""
	case 3:
		return u.Boot < 1<<63-1 || u.Active < 1<<63-1 || len(u.Calendars) != 0
	case 4:
		return len(u.Exists)+len(u.Changed) != 0
	case 5:
		return u.What != "" && u.Where != "" && u.Name == path+".mount"
	}
	return true
}

// plain: u with nil for each empty list.
func plain(u api.Unit) api.Unit {
	v := reflect.ValueOf(&u).Elem()
	for i := range v.NumField() {
		if f := v.Field(i); f.Kind() == reflect.Slice && f.Len() == 0 {
			f.SetZero()
		}
	}
	return u
}

// checkLoad: Load against the words, and P7.6.
func checkLoad(t *testing.T, unit string, texts []string) {
	t.Helper()
	u, l := Load(unit, texts)
	v, m := wantedLoad(unit, texts)
	if !reflect.DeepEqual(plain(u), plain(v)) || !slices.Equal(l, m) {
		t.Fatalf("Load(%q, %q):\n%d %s %s, want\n%d %s %s", unit, texts, u.Load, say(u), sayReports(l), v.Load, say(v), sayReports(m))
	}
	if !Same(u, v) {
		t.Fatalf("Same of %+v", u)
	}
	checkReportsChangeNothing(t, unit, texts)
}

// checkReportsChangeNothing: without what is reported the unit is the same, and nothing is reported.
func checkReportsChangeNothing(t *testing.T, unit string, texts []string) {
	t.Helper()
	u, l := Load(unit, texts)
	if len(l) == 0 || !name.Is(unit) {
		return
	}
	var files []api.File
	for _, text := range texts {
		if f, _, err := unitfile.Parse(text); err == api.OK {
			files = append(files, f)
		}
	}
	erred := len(texts) - len(files) // their reports come first
	merged := unitfile.Merge(files)
	for _, r := range slices.Backward(l[erred:]) {
		merged.Settings = slices.Delete(merged.Settings, r.Number, r.Number+1)
	}
	var rest []string // a text a setting, so that none is too long
	for _, s := range merged.Settings {
		if strings.HasSuffix(s.Value, `\`) { // its line would go on
			return
		}
		rest = append(rest, unitfile.Print(api.File{Settings: []api.Setting{s}}))
	}
	if len(rest) == 0 {
		rest = []string{""}
	}
	v, m := Load(unit, rest)
	if erred > 0 {
		if u.Load != api.Broken {
			t.Fatalf("Load(%q, %q): %d", unit, texts, u.Load)
		}
		v.Load = u.Load
	}
	if !Same(u, v) || len(m) != 0 {
		t.Fatalf("Load(%q, %q): %s, and without what is reported %s, %v", unit, texts, say(u), say(v), m)
	}
}

// valuesOf: values of each sort, right and wrong ones.
var valuesOf = []string{
	"", "", "b.service", "b.service c.target", "x", "/a", "/a /b/", "/a//b", "/mnt/d", "'/a b'", "\"", "\"\"", "'a' b", "%n", "%i", "%I", "%%", "%", "%q",
	"simple", "exec", "forking", "oneshot", "oneshot", "notify", "no", "on-failure", "always", "control-group", "process", "none", "yes", "true", "1", "false", "0",
	"5", "5min", "infinity", "100", "101", "000007", "0000007", "-1", "daily", "Mon 08:00", "*-*-* *:*:00", "run %p.service", "a.path", "a b",
	strings.Repeat("x", 200), strings.Repeat("x", 201), "/" + strings.Repeat("x", 199), "/" + strings.Repeat("x", 200), strings.Repeat("c.service ", 6), strings.Repeat("/c ", 7), strings.Repeat("a.target ", 12), strings.Repeat("/e ", 13),
}

var unitsOf = []string{"a.service", "a@b.service", "a@.service", `a@\x20.service`, "a@oneshot.service", "a.socket", `a@x\x22.socket`, "a.timer", "a@daily.timer", "a.path", `a@-b.path`, "a.mount", "mnt-d.mount", "-.mount", "a.target", "a@.target", "no"}

// randomText: settings, most of them of sections that count.
func randomText(r *rand.Rand, unit string) string {
	pick := func(l []string) string { return l[r.Intn(len(l))] }
	var out strings.Builder
	for range r.Intn(12) {
		k := keys[r.Intn(len(keys))]
		for range 6 { // more often than by chance of the unit's own kind
			if k.section == "Unit" || strings.HasSuffix(unit, "."+strings.ToLower(k.section)) {
				break
			}
			k = keys[r.Intn(len(keys))]
		}
		if r.Intn(20) == 0 {
			k.key = pick([]string{"Description", "Unit", "Service", "Type"})
		}
		out.WriteString("[" + k.section + "]\n")
		for range r.Intn(4) {
			value := pick(valuesOf)
			if choices := strings.Split(k.sort, "|"); len(choices) > 1 && r.Intn(2) == 0 {
				value = pick(choices)
			}
			if k.sort == "path" && r.Intn(2) == 0 { // as the mounts' names want it
				value = pick([]string{"/a", "/mnt/d", "/"})
			}
			out.WriteString(k.key + "=" + value + "\n")
		}
	}
	switch r.Intn(25) {
	case 0:
		return out.String() + "-"
	case 1:
		return "a=b\n" + out.String()
	}
	return out.String()
}

func TestLoadAgainstWords(t *testing.T) { // P7.2, P7.3, P7.4, P7.6
	r := rand.New(rand.NewSource(1))
	loads := map[int]int{}
	for range 20000 {
		unit := unitsOf[r.Intn(len(unitsOf))]
		texts := make([]string, r.Intn(4))
		for i := range texts {
			texts[i] = randomText(r, unit)
		}
		checkLoad(t, unit, texts)
		u, _ := Load(unit, texts)
		loads[10*u.Kind+u.Load]++
	}
	for kind := api.Service; kind <= api.Target; kind++ {
		for load := api.Loaded; load <= api.Broken; load++ {
			if loads[10*kind+load] < 20 {
				t.Errorf("only %d of kind %d are %d", loads[10*kind+load], kind, load)
			}
		}
	}
}

func TestEachKeyWithEachValue(t *testing.T) { // P7.2, P7.3
	for _, unit := range unitsOf {
		for _, k := range keys {
			for _, value := range valuesOf {
				checkLoad(t, unit, one(k.section, k.key+"="+value))
			}
		}
	}
}

func TestEachKeyWithEachByte(t *testing.T) { // P7.2, P7.3
	for _, k := range keys {
		unit := "a." + strings.ToLower(k.section)
		if k.section == "Unit" {
			unit = "a.target"
		}
		for b := range 256 {
			x := string([]byte{byte(b)})
			for _, frame := range []string{"?", "?b.service", "b?.service", "b.service?", "/b?", "1?", "?1", "no?", "daily?"} {
				checkLoad(t, unit, one(k.section, k.key+"="+strings.ReplaceAll(frame, "?", x)))
			}
		}
	}
}

func TestReportsChangeNothingElse(t *testing.T) { // P7.6
	right := []string{"After=b.service", "Wants=c.service d.service", "DefaultDependencies=no"}
	wrong := []string{"After=x", "Wants=e.service %q", "DefaultDependencies=perhaps", "After=\"", "Before=" + strings.Repeat("b.service ", 13)}
	want, _ := Load("a.target", one("Unit", right...))
	for place := range len(right) + 1 {
		for _, w := range wrong {
			u, l := Load("a.target", one("Unit", slices.Insert(slices.Clone(right), place, w)...))
			if !Same(u, want) || len(l) != 1 || l[0].Number != place || l[0].File != 0 {
				t.Errorf("%q at %d: %s, %v", w, place, say(u), l)
			}
		}
	}
}

// TestWhatLoadsCanBeStarted: a unit that is Loaded has lists within their limits, and all that its start hands on.
func TestWhatLoadsCanBeStarted(t *testing.T) { // P7.6
	r := rand.New(rand.NewSource(2))
	for range 20000 {
		unit := unitsOf[r.Intn(len(unitsOf))]
		u, _ := Load(unit, []string{randomText(r, unit), randomText(r, unit)})
		if u.Load != api.Loaded {
			continue
		}
		v := reflect.ValueOf(u)
		for i := range v.NumField() {
			list, _ := v.Field(i).Interface().([]string)
			if len(list) > api.MaxList || slices.ContainsFunc(list, func(s string) bool { return s == "" || len(s) > api.MaxText }) {
				t.Fatalf("%s: %s is %q", unit, v.Type().Field(i).Name, list)
			}
		}
		commands := len(u.Start) + len(u.Stop)
		switch {
		case u.Kind == api.Service && commands == 0, u.Kind == api.Socket && (u.Listen == "" || u.Target == ""),
			u.Kind == api.Timer && u.Target == "", u.Kind == api.Path && u.Target == "", u.Kind == api.Mount && (u.What == "" || u.Where == ""):
			t.Fatalf("%s: %s", unit, say(u))
		}
		if u.Burst < 0 || u.Burst > 100 || u.Type < 0 || u.Type > 5 || u.Restart > 3 || u.KillMode > 3 {
			t.Fatalf("%s: %s", unit, say(u))
		}
	}
}

// filled: a unit in which no field is zero.
func filled() api.Unit {
	var u api.Unit
	v := reflect.ValueOf(&u).Elem()
	for i := range v.NumField() {
		switch f := v.Field(i); f.Kind() {
		case reflect.String:
			f.SetString("a")
		case reflect.Int, reflect.Int64:
			f.SetInt(7)
		case reflect.Bool:
			f.SetBool(true)
		case reflect.Slice:
			f.Set(reflect.ValueOf([]string{"a", "b"}))
		}
	}
	return u
}

func TestSame(t *testing.T) { // P7.5
	for _, base := range []api.Unit{{}, filled(), Blank("a.service"), Blank("a.timer")} {
		if !Same(base, base) {
			t.Errorf("%+v isn't like itself", base)
		}
		fields := reflect.TypeFor[api.Unit]()
		for i := range fields.NumField() {
			for _, other := range otherValues(reflect.ValueOf(base).Field(i).Interface()) {
				u := base
				reflect.ValueOf(&u).Elem().Field(i).Set(reflect.ValueOf(other))
				if Same(u, base) || Same(base, u) {
					t.Errorf("%s: %v is like %v", fields.Field(i).Name, other, reflect.ValueOf(base).Field(i))
				}
			}
		}
	}
}

// otherValues: values of the same type that aren't alike.
func otherValues(x any) []any {
	switch x := x.(type) {
	case string:
		return []any{x + "b", "B" + x}
	case int:
		return []any{x + 1, x - 1, x + 1<<32}
	case int64:
		return []any{x + 1, x - 1, x + 1<<32}
	case bool:
		return []any{!x}
	case []string:
		l := []any{append(slices.Clone(x), "c"), append(slices.Clone(x), ""), []string{"c"}, append([]string{"c"}, x...)}
		if len(x) > 1 {
			l = append(l, x[:len(x)-1], []string{x[1], x[0]}, []string{}, []string(nil), []string{x[0] + x[1]})
		}
		return l
	}
	return nil
}

func TestSameOfEmptyLists(t *testing.T) { // P7.5
	u, v := Blank("a.service"), Blank("a.service")
	f := reflect.ValueOf(&u).Elem()
	for i := range f.NumField() {
		if f.Field(i).Kind() == reflect.Slice {
			f.Field(i).Set(reflect.ValueOf(make([]string, 0, i%3)))
			if !Same(u, v) || !Same(v, u) || !Same(u, u) {
				t.Errorf("%s: empty isn't like nil", f.Type().Field(i).Name)
			}
		}
	}
}

func TestSameOfFieldsThatChangedPlaces(t *testing.T) { // P7.5
	if Same(api.Unit{What: "a"}, api.Unit{Where: "a"}) || Same(api.Unit{Boot: 1}, api.Unit{Active: 1}) || Same(api.Unit{Type: 1}, api.Unit{Restart: 1}) || Same(api.Unit{Plain: true}, api.Unit{Remain: true}) || Same(api.Unit{After: []string{"a"}}, api.Unit{Before: []string{"a"}}) {
		t.Error("fields of one type are mixed up")
	}
}

func TestAnswersAreNewMemory(t *testing.T) { // P7.2
	texts := []string{"[Unit]\nAfter=a.service b.service\nBefore=a.service b.service\nWants=c.service\nWants=d.service\n[Path]\nPathExists=/a /b\nPathExists=/c\nPathChanged=/a /b", "x", "-", "[Path]\nUnit=\n"}
	kept := slices.Clone(texts)
	u, l := Load("a.path", texts[:2])
	want, reports := say(u), sayReports(l)
	for range 2 { // a second time: an answer that was changed is in none that comes later
		v, m := Load("a.path", texts[:2])
		if say(v) != want || sayReports(m) != reports || !slices.Equal(texts, kept) {
			t.Fatalf("%s, %v", say(v), m)
		}
		f := reflect.ValueOf(v)
		for i := range f.NumField() {
			list, ok := f.Field(i).Interface().([]string)
			if !ok {
				continue
			}
			ahead := say(v)
			clear(list[len(list):cap(list)])
			if say(v) != ahead {
				t.Fatalf("%s shares its spare room", f.Type().Field(i).Name)
			}
			for j := range f.NumField() {
				if other, ok := f.Field(j).Interface().([]string); ok && i != j && cap(list) > 0 && cap(other) > 0 && &list[:cap(list)][0] == &other[:cap(other)][0] {
					t.Fatalf("%s and %s share memory", f.Type().Field(i).Name, f.Type().Field(j).Name)
				}
			}
			clear(list[:cap(list)])
		}
		clear(m[:cap(m)])
	}
	if say(u) != want || sayReports(l) != reports {
		t.Errorf("touched: %s, %v", say(u), l)
	}
}

func TestSettingsThatCountAreLeft(t *testing.T) { // P7.2
	f, _, _ := unitfile.Parse("[X]\na=1\n[Unit]\nb=2\n[Path]\nc=3\n[Mount]\nd=4\n[Path]\ne=5")
	for most := 1; most <= 3; most++ {
		got := ""
		for place, s := range counting(f, api.Path) {
			got += strconv.Itoa(place) + s.Key
			if len(got) == 2*most {
				break
			}
		}
		if got != "1b2c4e"[:2*most] {
			t.Errorf("left behind %d: %s", most, got)
		}
	}
}

func TestLoadOfManyTexts(t *testing.T) { // P7.2
	const n = 20000
	texts := make([]string, n)
	for i := range texts {
		texts[i] = "[Unit]\nAfter=b.service\n" + strings.Repeat("x", i%2)
	}
	u, l := Load("a.target", texts)
	if len(u.After) != 12 || len(l) != n/2+n/2-12 || u.Load != api.Broken || l[0] != (api.Report{File: 1, Number: 3, Err: 50}) || l[len(l)-1] != (api.Report{File: 0, Number: n/2 - 1, Err: 70}) {
		t.Errorf("%d after, %d reports", len(u.After), len(l))
	}
}

func FuzzLoad(f *testing.F) { // P7.2, P7.3, P7.4, P7.6
	r := rand.New(rand.NewSource(3))
	for _, unit := range unitsOf {
		f.Add(unit, randomText(r, unit), randomText(r, unit))
	}
	f.Fuzz(func(t *testing.T, unit, s, u string) {
		checkLoad(t, unit, []string{s})
		checkLoad(t, unit, []string{s, u})
	})
}
