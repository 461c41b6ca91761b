package setting

import (
	"fmt"
	"reflect"
	"slices"
	"strings"
	"testing"

	"reveille/api"
)

// say: the fields of u, its Load aside, that are other than Blank has them, as `Field=value` in their order.
func say(u api.Unit) string {
	var out []string
	got, blank := reflect.ValueOf(u), reflect.ValueOf(Blank(u.Name))
	for i := range got.NumField() {
		field := got.Type().Field(i).Name
		if x := fmt.Sprintf("%q", got.Field(i).Interface()); field != "Load" && x != fmt.Sprintf("%q", blank.Field(i).Interface()) {
			if got.Field(i).Kind() != reflect.String && got.Field(i).Kind() != reflect.Slice {
				x = fmt.Sprint(got.Field(i).Interface())
			}
			out = append(out, field+"="+x)
		}
	}
	return strings.Join(out, " ")
}

// sayReports: reports as `file.number:error`, one blank between.
func sayReports(l []api.Report) string {
	var out []string
	for _, r := range l {
		out = append(out, fmt.Sprintf("%d.%d:%d", r.File, r.Number, int(r.Err)))
	}
	return strings.Join(out, " ")
}

// row: a unit, its texts, and what Load is to tell of it.
type row struct {
	unit    string
	texts   []string
	load    int
	want    string
	reports string
}

func checkTable(t *testing.T, rows []row) {
	t.Helper()
	for _, c := range rows {
		u, l := Load(c.unit, c.texts)
		if u.Load != c.load || say(u) != c.want || sayReports(l) != c.reports || u.Name != c.unit {
			t.Errorf("Load(%q, %.300q):\n%d {%.300s} {%s}, want\n%d {%.300s} {%s}", c.unit, c.texts, u.Load, say(u), sayReports(l), c.load, c.want, c.reports)
		}
		checkLoad(t, c.unit, c.texts)
	}
}

// one: a single text of one section.
func one(section string, settings ...string) []string {
	return []string{"[" + section + "]\n" + strings.Join(settings, "\n")}
}

func TestBlank(t *testing.T) { // P7.1
	service := api.Unit{Kind: 1, Load: 2, Type: 1, Restart: 1, KillMode: 1, RestartSec: 1, StartSec: 90, StopSec: 90, Burst: 5, Interval: 10}
	long := strings.Repeat("x", 55)
	for unit, want := range map[string]api.Unit{
		"a.service":              service,
		"a@.service":             service,
		"a@b.c.service":          service,
		"a.socket":               {Kind: 2, Load: 2, Target: "a.service"},
		"a@b.socket":             {Kind: 2, Load: 2, Target: "a@b.service"},
		"a@.socket":              {Kind: 2, Load: 2, Target: "a@.service"},
		"a.socket.socket":        {Kind: 2, Load: 2, Target: "a.socket.service"},
		"a.timer":                {Kind: 3, Load: 2, Target: "a.service", Boot: 1<<63 - 1, Active: 1<<63 - 1},
		"a@b.timer":              {Kind: 3, Load: 2, Target: "a@b.service", Boot: 1<<63 - 1, Active: 1<<63 - 1},
		"a.path":                 {Kind: 4, Load: 2, Target: "a.service"},
		"a.service.path":         {Kind: 4, Load: 2, Target: "a.service.service"},
		long + ".path":           {Kind: 4, Load: 2, Target: long + ".service"},
		"a.mount":                {Kind: 5, Load: 2},
		"-.mount":                {Kind: 5, Load: 2},
		"a.target":               {Kind: 6, Load: 2},
		"a@b.target":             {Kind: 6, Load: 2},
		"":                       {Load: 3},
		"no":                     {Load: 3},
		".service":               {Load: 3},
		"a.Service":              {Load: 3},
		"a@b@c.socket":           {Load: 3},
		"a/b.timer":              {Load: 3},
		"a.service ":             {Load: 3},
		long + "x.path":          {Load: 3},
		"\xff\x00":               {Load: 3},
		strings.Repeat("a", 9e6): {Load: 3},
	} {
		want.Name = unit
		if got := Blank(unit); !reflect.DeepEqual(got, want) {
			t.Errorf("Blank(%.80q): %+v, want %+v", unit, got, want)
		}
	}
}

func TestLoadOfNothing(t *testing.T) { // P7.2
	for _, unit := range []string{"a.service", "a@b.socket", "a.timer", "a.path", "a.mount", "a.target", "no", ""} {
		for _, texts := range [][]string{nil, {}, make([]string, 0, 3)} {
			if u, l := Load(unit, texts); !reflect.DeepEqual(u, Blank(unit)) || len(l) != 0 {
				t.Errorf("Load(%q) of no texts: %+v, %v", unit, u, l)
			}
		}
	}
	for _, unit := range []string{"", "no", "a@b@c.service", strings.Repeat("a", 53) + ".service"} {
		for _, texts := range [][]string{{""}, {"x"}, {"[Service]\nExecStart=a\nType=odd"}, {"[Unit]\nAfter=b.service", "y"}} {
			if u, l := Load(unit, texts); !reflect.DeepEqual(u, api.Unit{Name: unit, Load: 3}) || len(l) != 0 {
				t.Errorf("Load(%q, %q): %+v, %v", unit, texts, u, l)
			}
		}
	}
}

func TestLoadReportsTextsThatErr(t *testing.T) { // P7.2
	run := "[Service]\nExecStart=run"
	checkTable(t, []row{
		{"a.service", []string{run}, 1, `Start=["run"]`, ""},
		{"a.service", []string{"x"}, 3, "", "0.1:50"},
		{"a.target", []string{"x"}, 3, "", "0.1:50"},
		{"a.target", []string{"", "# x", "[Unit]"}, 1, "", ""},
		{"a.service", []string{run, "x"}, 3, `Start=["run"]`, "1.1:50"},
		{"a.service", []string{"x", run}, 3, `Start=["run"]`, "0.1:50"},
		{"a.service", []string{"\n\nRestart=no\n" + run}, 3, "", "0.3:60"},
		{"a.service", []string{run + "\nRestart=always\n\n-\n"}, 3, "", "0.5:50"},
		{"a.service", []string{run, "[Service]\nExecStart=" + strings.Repeat("x", 400)}, 3, `Start=["run"]`, "1.2:51"},
		{"a.service", []string{strings.Repeat("\n", 4001), run}, 3, `Start=["run"]`, "0.0:51"},
		{"a.service", []string{run + strings.Repeat("\n", 3977)}, 1, `Start=["run"]`, ""},
		{"a.service", []string{run + strings.Repeat("\n", 3978)}, 3, "", "0.0:51"},
		{"a.service", []string{"x", run, "y=", "[Service]\nExecStart=\nExecStart=two\n[", "[Service]\nExecStart=\nExecStart=three\nType=odd"}, 3, `Start=["three"]`, "0.1:50 2.1:60 3.4:50 0.1:70"},
		{"a.service", []string{run, "[Service]\nType=odd\nRestart=always", "\n[Service]\n\n\nKillMode=odd"}, 1, `Restart=3 Start=["run"]`, "0.1:70 0.3:70"},
	})
}

func TestLoadMerges(t *testing.T) { // P7.2
	checkTable(t, []row{
		{"a.service", []string{"[Service]\nExecStart=one", "[Service]\nExecStart=", "[Service]\nExecStart=two"}, 1, `Start=["two"]`, ""},
		{"a.service", []string{"[Service]\nExecStart=one\nRestart=odd\nRestart=always", "[Service]\nRestart="}, 1, `Start=["one"]`, ""},
		{"a.target", []string{"[Unit]\nAfter=b.target x\nWants=b.target", "[Unit]\nAfter=\nAfter=c.target y\nWants=d.target"}, 1, `Wants=["b.target" "d.target"]`, "0.1:70"},
		{"a.target", []string{"[Unit]\nAfter=b.target", "[Unit]\nBefore=c.target\nAfter=d.target b.target"}, 1, `After=["b.target" "d.target" "b.target"] Before=["c.target"]`, ""},
		// places are counted over all that is left, also of sections and keys that don't count
		{"a.target", []string{"[X]\na=\nb=1\n[Unit]\nDescription=x\nAfter=y\n[Service]\nType=odd\n[Unit]\nAfter=z"}, 1, "", "0.2:70 0.4:70"},
	})
}

func TestSectionsThatCount(t *testing.T) { // P7.2
	all := "[Unit]\nAfter=b.target\n[Service]\nRestartSec=7\n[Socket]\nListenStream=s\n[Timer]\nOnBootSec=8\n[Path]\nPathExists=/p\n[Mount]\nWhat=w\nWhere=/a\n[Target]\nAfter=c.target\n[unit]\nAfter=d.target\n[ Unit]\nAfter=e.target\n[Service]\nExecStart=x"
	const after = `After=["b.target"]`
	checkTable(t, []row{
		{"a.service", []string{all}, 1, after + ` Start=["x"] RestartSec=7`, ""},
		{"a.socket", []string{all}, 1, after + ` Listen="s"`, ""},
		{"a.timer", []string{all}, 1, after + ` Boot=8`, ""},
		{"a.path", []string{all}, 1, after + ` Exists=["/p"]`, ""},
		{"a.mount", []string{all}, 1, after + ` What="w" Where="/a"`, ""},
		{"a.target", []string{all}, 1, after, ""},
	})
	wrong := "[Unit]\nAfter=%q\n[Service]\nRestartSec=x\n[Socket]\nService=x\n[Timer]\nOnCalendar=x\n[Path]\nPathExists=\"x\n[Mount]\nWhere=x"
	for unit, want := range map[string]string{"a.service": "0.0:42 0.1:10", "a.socket": "0.0:42 0.2:70", "a.timer": "0.0:42 0.3:30", "a.path": "0.0:42 0.4:50", "a.mount": "0.0:42 0.5:70", "a.target": "0.0:42"} {
		if u, l := Load(unit, []string{wrong}); sayReports(l) != want || say(u) != "" {
			t.Errorf("%s: %s, want %s; %s", unit, sayReports(l), want, say(u))
		}
	}
}

func TestKeysThatArentListed(t *testing.T) { // P7.2
	for kind, own := range ownSections {
		unit := "a." + strings.ToLower(kind)
		for _, section := range []string{"Unit", own} {
			for _, key := range []string{"Description", "wants", "AFTER", "Requisite", "Type0", "execstart", "ExecStartPost", "TimeoutSec", "Listen", "ListenDatagram", "OnActiveSec", "PathModified", "Options", "x"} {
				for _, value := range []string{"x", "%q", `"`, "b.service", strings.Repeat("x", 380)} {
					if u, l := Load(unit, one(section, key+"="+value)); say(u) != "" || len(l) != 0 {
						t.Errorf("%s: [%s] %s=%.20s: %s, %v", unit, section, key, value, say(u), l)
					}
				}
			}
			for _, k := range keys { // those of other sections
				if slices.ContainsFunc(keys, func(o keyOf) bool { return o.section == section && o.key == k.key }) {
					continue
				}
				if u, l := Load(unit, one(section, k.key+"=%q")); say(u) != "" || len(l) != 0 {
					t.Errorf("%s: [%s] %s: %s, %v", unit, section, k.key, say(u), l)
				}
			}
		}
	}
}

func TestExpandIsFirst(t *testing.T) { // P7.2
	checkTable(t, []row{
		{"a.service", one("Service", "ExecStart=run %n"), 1, `Start=["run a.service"]`, ""},
		{"a@oneshot.service", one("Service", "Type=%i", "ExecStart=%p %% %i %I"), 1, `Type=4 Start=["a % oneshot oneshot"]`, ""},
		{"a@b-c.service", one("Service", "ExecStart=%I", "ExecStop=\"%I"), 1, `Start=["b/c"] Stop=["\"b/c"]`, ""},
		{"a@1.service", one("Service", "ExecStart=x", "RestartSec=%i%i", "StartLimitBurst=%i0", "RemainAfterExit=%i", "KillMode=proce%s"), 1, `Start=["x"] RestartSec=11 Burst=10 Remain=true`, "0.4:42"},
		{"a@.x.service", one("Service", "ExecStart=%I", "ExecStop=%"), 3, "", "0.0:42 0.1:42"},
		{"a@b.target", one("Unit", "After=%n %p.service", "Before=%i", "Wants=%i.path%i.path"), 1, `Wants=["b.pathb.path"] After=["a@b.target" "a.service"]`, "0.1:70"},
		{`a@b\x20c.socket`, one("Socket", "ListenStream=%I", "ListenStream=\"%I\"", "Service=%p.service"), 1, `Listen="b c" Target="a.service"`, "0.0:70"},
		{`a@-b\x20-c.path`, one("Path", "PathExists=%I"), 1, `Exists=["/b" "/c"]`, ""},
		{`a@-b\x20-c.path`, one("Path", "PathExists=\"%I\""), 1, `Exists=["/b /c"]`, ""},
		{"a@daily.timer", one("Timer", "OnCalendar=%i", "OnBootSec=%I"), 1, `Calendars=["daily"]`, "0.1:10"},
		{`a@\x20daily.timer`, one("Timer", "OnCalendar=%I"), 3, "", "0.0:30"},
		{`a@\x22.target`, one("Unit", "After=%I", "Before=%ib.service\""), 1, "", "0.0:50 0.1:70"},
		// an error of Expand is told ahead of all others
		{"a.service", one("Service", "ExecStart="+strings.Repeat("x", 300)+"%", "RestartSec=x%q", "StartLimitBurst=%q", "Type=%q"), 3, "", "0.0:42 0.1:42 0.2:42 0.3:42"},
		// a value that is empty behind it was none that Merge takes for one
		{"a.service", one("Service", "ExecStart=x", "ExecStart=%i", "ExecStop=%I%i", "Type=%i", "RestartSec=%i", "StartLimitBurst=%i", "RemainAfterExit=%i"), 1, `Start=["x"]`, "0.1:70 0.2:70 0.3:70 0.4:10 0.5:70 0.6:70"},
		{"a.target", one("Unit", "After=b.target", "After=%i", "After= %i %I ", "DefaultDependencies=%i"), 1, `After=["b.target"]`, "0.3:70"},
		{"a.socket", one("Socket", "ListenStream=x", "ListenStream=%i", "Service=%i"), 1, `Listen="x"`, "0.1:70 0.2:70"},
		{"a.timer", one("Timer", "OnCalendar=%i", "OnBootSec=%i", "Unit=%i"), 3, "", "0.0:30 0.1:10 0.2:70"},
		{"a.path", one("Path", "PathExists=%i", "PathChanged=%i%I"), 3, "", ""},
		{`a@\x20.service`, one("Service", "ExecStart=%I"), 1, `Start=[" "]`, ""},
	})
}

func TestNames(t *testing.T) { // P7.2, P7.3
	for _, key := range []string{"Wants", "Requires", "BindsTo", "PartOf", "Conflicts", "After", "Before"} {
		checkTable(t, []row{
			{"a.target", one("Unit", key+"=b.service"), 1, key + `=["b.service"]`, ""},
			{"a.target", one("Unit", key+"= b.service\t c@d.mount  a.target ", key+"=b.service"), 1, key + `=["b.service" "c@d.mount" "a.target" "b.service"]`, ""},
			{"a.target", one("Unit", key+"=\"b.service\" 'c.socket'"), 1, key + `=["b.service" "c.socket"]`, ""},
			{"a.target", one("Unit", key+"=c@.service"), 1, key + `=["c@.service"]`, ""},
			{"a.target", one("Unit", key+"=b.service x", key+"=y", key+"=c.service", key+"=\"\""), 1, key + `=["c.service"]`, "0.0:70 0.1:70 0.3:70"},
			{"a.target", one("Unit", key+"=b.service,c.service", key+"=b.service;", key+"=/b", key+"=b"), 1, "", "0.0:70 0.1:70 0.2:70 0.3:70"},
			{"a.target", one("Unit", key+"=\"b.service", key+"=x \"", key+"='b.service'c.service", key+"=\"b\\.service\""), 1, "", "0.0:50 0.1:50 0.2:50 0.3:50"},
			{"a.target", one("Unit", key+"="+strings.Repeat("x", 52)+".service"), 1, key + `=["` + strings.Repeat("x", 52) + `.service"]`, ""},
			{"a.target", one("Unit", key+"="+strings.Repeat("x", 53)+".service"), 1, "", "0.0:70"},
		})
	}
}

func TestPaths(t *testing.T) { // P7.2, P7.3
	for _, c := range []struct{ key, field, other string }{{"PathExists", "Exists", "PathChanged"}, {"PathChanged", "Changed", "PathExists"}} {
		x := strings.Repeat("x", 199)
		checkTable(t, []row{
			{"a.path", one("Path", c.key+"=/"), 1, c.field + `=["/"]`, ""},
			{"a.path", one("Path", c.key+"=/b /c/d/ '/e f'", c.key+"=/b"), 1, c.field + `=["/b" "/c/d/" "/e f" "/b"]`, ""},
			{"a.path", one("Path", c.key+"=b", c.key+"=/b c", c.key+"=//", c.key+"=/b//c", c.key+"=/b/.", c.key+"=/../b", c.key+"=\"\"", c.key+"=/b \""), 3, "", "0.0:70 0.1:70 0.2:70 0.3:70 0.4:70 0.5:70 0.6:70 0.7:50"},
			{"a.path", one("Path", c.key+"=/b/...", c.key+"=/-/\xff"), 1, c.field + `=["/b/..." "/-/\xff"]`, ""},
			{"a.path", one("Path", c.key+"=/"+x), 1, c.field + `=["/` + x + `"]`, ""},
			{"a.path", one("Path", c.key+"=/b /"+x+"x", c.key+"=/c"), 1, c.field + `=["/c"]`, "0.0:70"},
			{"a.path", one("Path", c.key+"=/1/2/3/4/5/6/7/8/9/10"), 1, c.field + `=["/1/2/3/4/5/6/7/8/9/10"]`, ""},
			{"a.path", one("Path", c.key+"=b", c.other+"=/"), 1, strings.TrimPrefix(c.other, "Path") + `=["/"]`, "0.0:70"},
		})
	}
}

func TestCommands(t *testing.T) { // P7.2, P7.3
	x := strings.Repeat("x", 200)
	for _, c := range []struct{ key, field string }{{"ExecStartPre", "Pre"}, {"ExecStart", "Start"}, {"ExecStop", "Stop"}} {
		for _, command := range []string{"a", "/bin/a -b  \t c", "\"a", "'a' 'b", "a\\", "a.service b", "\xff\x00", "=", x} {
			u, l := Load("a.service", one("Service", c.key+"="+command+" "))
			if want := fmt.Sprintf("%s=%q", c.field, []string{command}); say(u) != want || len(l) != 0 {
				t.Errorf("%s=%q: %s, %v", c.key, command, say(u), l)
			}
		}
		u, l := Load("a.service", one("Service", c.key+"=a", c.key+"="+x+"x", c.key+"=%i", c.key+"=b b", c.key+"=a"))
		if want := c.field + `=["a" "b b" "a"]`; say(u) != want || sayReports(l) != "0.1:70 0.2:70" {
			t.Errorf("%s: %s, %v", c.key, say(u), l)
		}
	}
	name := strings.Repeat("x", 52) + ".service"
	checkTable(t, []row{ // the bytes are counted behind Expand
		{name, one("Service", "ExecStart=%n%n%n"+x[:20]), 1, `Start=["` + name + name + name + x[:20] + `"]`, ""},
		{name, one("Service", "ExecStart=%n%n%n"+x[:21]), 3, "", "0.0:70"},
		{"a.service", one("Service", "ExecStart="+strings.Repeat("%i", 150)+x[:90]), 1, `Start=["` + x[:90] + `"]`, ""},
	})
}

func TestListsAreFull(t *testing.T) { // P7.2
	for _, c := range []struct{ unit, section, key, field, value string }{
		{"a.target", "Unit", "Wants", "Wants", "b.service"}, {"a.target", "Unit", "Requires", "Requires", "b.service"},
		{"a.target", "Unit", "BindsTo", "BindsTo", "b.service"}, {"a.target", "Unit", "PartOf", "PartOf", "b.service"},
		{"a.target", "Unit", "Conflicts", "Conflicts", "b.service"}, {"a.target", "Unit", "After", "After", "b.service"},
		{"a.target", "Unit", "Before", "Before", "b.service"}, {"a.path", "Path", "PathExists", "Exists", "/b"},
		{"a.path", "Path", "PathChanged", "Changed", "/b"}, {"a.service", "Service", "ExecStartPre", "Pre", "b"},
		{"a.service", "Service", "ExecStart", "Start", "b"}, {"a.service", "Service", "ExecStop", "Stop", "b"},
		{"a.timer", "Timer", "OnCalendar", "Calendars", "daily"},
	} {
		line := c.key + "=" + c.value + "\n"
		for n, want := range map[int]int{1: 1, 11: 11, 12: 12, 13: 12, 30: 12} {
			u, l := Load(c.unit, one(c.section, strings.Repeat(line, n)))
			got := reflect.ValueOf(u).FieldByName(c.field).Interface().([]string)
			if !slices.Equal(got, slices.Repeat([]string{c.value}, want)) || len(l) != n-want || n > 12 && l[0] != (api.Report{File: 0, Number: 12, Err: 70}) {
				t.Errorf("%s %d times: %q, %v", c.key, n, got, l)
			}
		}
	}
	eleven := strings.Repeat("b.service ", 11)
	checkTable(t, []row{
		{"a.target", one("Unit", "After="+eleven+"b.service"), 1, fmt.Sprintf("After=%q", slices.Repeat([]string{"b.service"}, 12)), ""},
		{"a.target", one("Unit", "After="+eleven+"b.service c.service"), 1, "", "0.0:70"},
		{"a.target", one("Unit", "After="+eleven, "After=c.service d.service", "After=%i", "After=c.service", "After=%i", "After=d.service"), 1, fmt.Sprintf("After=%q", append(slices.Repeat([]string{"b.service"}, 11), "c.service")), "0.1:70 0.5:70"},
		{"a.target", one("Unit", "After="+eleven+"b.service", "After=x", "After=\"", "Before=b.service"), 1, fmt.Sprintf("After=%q Before=[\"b.service\"]", slices.Repeat([]string{"b.service"}, 12)), "0.1:70 0.2:50"},
		{"a.target", one("Unit", "After="+strings.Repeat("b ", 190)), 1, "", "0.0:70"},
	})
}

func TestChoices(t *testing.T) { // P7.3
	for _, c := range []struct {
		key, field string
		words      []string
	}{
		{"Type", "Type", []string{"simple", "exec", "forking", "oneshot", "notify"}},
		{"Restart", "Restart", []string{"no", "on-failure", "always"}},
		{"KillMode", "KillMode", []string{"control-group", "process", "none"}},
	} {
		for i, word := range c.words {
			for _, ahead := range c.words { // the last one that can be counts
				u, l := Load("a.service", one("Service", c.key+"="+ahead, c.key+"="+word, c.key+"=odd"))
				if got := reflect.ValueOf(u).FieldByName(c.field).Int(); got != int64(i+1) || sayReports(l) != "0.2:70" {
					t.Errorf("%s=%s: %d, %v", c.key, word, got, l)
				}
			}
			for _, wrong := range []string{strings.ToUpper(word), strings.ToUpper(word[:1]) + word[1:], word + "x", "x" + word, word[1:], `"` + word + `"`, word + " " + word, word + ";", fmt.Sprint(i + 1), "%i"} {
				u, l := Load("a.service", one("Service", c.key+"="+wrong))
				if say(u) != "" || sayReports(l) != "0.0:70" {
					t.Errorf("%s=%s: %s, %v", c.key, wrong, say(u), l)
				}
			}
		}
	}
	checkTable(t, []row{ // the words of one key are none of another
		{"a.service", one("Service", "Type=no", "Type=none", "Restart=none", "Restart=simple", "Restart=false", "KillMode=no", "KillMode=control", "KillMode=group", "KillMode=mixed", "Type=idle", "Restart=on-success", "Restart=yes"), 3, "", "0.0:70 0.1:70 0.2:70 0.3:70 0.4:70 0.5:70 0.6:70 0.7:70 0.8:70 0.9:70 0.10:70 0.11:70"},
	})
}

func TestTruths(t *testing.T) { // P7.2, P7.3
	for _, c := range []struct {
		unit, section, key, field string
		of                        map[bool]bool // what the field is of a truth
	}{
		{"a.service", "Service", "RemainAfterExit", "Remain", map[bool]bool{true: true, false: false}},
		{"a.target", "Unit", "DefaultDependencies", "Plain", map[bool]bool{true: false, false: true}},
	} {
		for word, truth := range map[string]bool{"yes": true, "true": true, "1": true, "no": false, "false": false, "0": false} {
			for _, ahead := range []string{"yes", "no"} {
				u, l := Load(c.unit, one(c.section, c.key+"="+ahead, c.key+"="+word, c.key+"=odd"))
				if got := reflect.ValueOf(u).FieldByName(c.field).Bool(); got != c.of[truth] || sayReports(l) != "0.2:70" {
					t.Errorf("%s=%s: %v, %v", c.key, word, got, l)
				}
			}
		}
		for _, wrong := range []string{"on", "off", "Yes", "YES", "True", "y", "n", "t", "f", "2", "00", "01", "-1", "yes no", `"yes"`, "yes,", "maybe", "%i"} {
			if u, l := Load(c.unit, one(c.section, c.key+"="+wrong)); say(u) != "" || sayReports(l) != "0.0:70" {
				t.Errorf("%s=%s: %s, %v", c.key, wrong, say(u), l)
			}
		}
	}
}

func TestNumbers(t *testing.T) { // P7.2, P7.3
	for text, want := range map[string]int{"0": 0, "1": 1, "7": 7, "99": 99, "100": 100, "007": 7, "000100": 100, "000000": 0, "000099": 99} {
		if u, l := Load("a.service", one("Service", "StartLimitBurst=42", "StartLimitBurst="+text)); u.Burst != want || len(l) != 0 {
			t.Errorf("%s: %d, %v", text, u.Burst, l)
		}
	}
	for _, text := range []string{"101", "000101", "999999", "0000001", "0000100", "1000000", "99999999999999999999999", "-1", "+1", "-0", "1.0", "1e1", "0x1", "1_0", "1 0", "1;", "x", `"1"`, "\u0661", "infinity", "1s", "%i", "\x00"} {
		if u, l := Load("a.service", one("Service", "StartLimitBurst=42", "StartLimitBurst="+text)); u.Burst != 42 || sayReports(l) != "0.1:70" {
			t.Errorf("%s: %d, %v", text, u.Burst, l)
		}
	}
}

func TestSpans(t *testing.T) { // P7.2, P7.3
	const forever = 1<<63 - 1
	for _, c := range []struct {
		unit, section, key, field string
		infinity                  int64
	}{
		{"a.service", "Service", "RestartSec", "RestartSec", forever}, {"a.service", "Service", "TimeoutStartSec", "StartSec", forever},
		{"a.service", "Service", "TimeoutStopSec", "StopSec", forever}, {"a.service", "Service", "StartLimitIntervalSec", "Interval", forever},
		{"a.service", "Service", "WatchdogSec", "Watchdog", 0}, {"a.timer", "Timer", "OnBootSec", "Boot", forever}, {"a.timer", "Timer", "OnUnitActiveSec", "Active", forever},
	} {
		for text, want := range map[string]int64{"0": 0, "5": 5, "2min": 120, "1h 30min": 5400, " 1w2d ": 777600, "1m5": 65, "infinity": c.infinity, "999999999999999999": 999999999999999999} {
			u, l := Load(c.unit, one(c.section, c.key+"=42", c.key+"="+text, c.key+"=x"))
			if got := reflect.ValueOf(u).FieldByName(c.field).Int(); got != want || sayReports(l) != "0.2:10" {
				t.Errorf("%s=%s: %d, %v", c.key, text, got, l)
			}
			v := Blank(c.unit)
			reflect.ValueOf(&v).Elem().FieldByName(c.field).SetInt(want)
			if v.Load = u.Load; !reflect.DeepEqual(u, v) {
				t.Errorf("%s=%s: %s", c.key, text, say(u))
			}
		}
		for _, wrong := range []string{"x", "-1", "5 6", "Infinity", "infinity 1s", "1x", "1.5", `"5"`, "1000000000000000000", "daily", "%i"} {
			if u, l := Load(c.unit, one(c.section, c.key+"="+wrong)); say(u) != "" || sayReports(l) != "0.0:10" {
				t.Errorf("%s=%s: %s, %v", c.key, wrong, say(u), l)
			}
		}
	}
	if u, l := Load("a.service", one("Service", "WatchdogSec=999999999999999999w", "ExecStart=x")); u.Watchdog != 0 || len(l) != 0 {
		t.Errorf("WatchdogSec of a span that is Forever: %d, %v", u.Watchdog, l)
	}
}

func TestSockets(t *testing.T) { // P7.3, P7.4
	x := strings.Repeat("x", 200)
	checkTable(t, []row{
		{"a.socket", one("Socket", "ListenStream=/run/a"), 1, `Listen="/run/a"`, ""},
		{"a.socket", one("Socket", "ListenStream=a", "ListenStream='b c'"), 1, `Listen="b c"`, ""},
		{"a.socket", one("Socket", "ListenStream=a", "ListenStream=b c", "ListenStream=\"d"), 1, `Listen="a"`, "0.1:70 0.2:50"},
		{"a.socket", one("Socket", "ListenStream="+x), 1, `Listen="` + x + `"`, ""},
		{"a.socket", one("Socket", "ListenStream=\""+x+"\""), 1, `Listen="` + x + `"`, ""},
		{"a.socket", one("Socket", "ListenStream="+x+"x"), 3, "", "0.0:70"},
		{"a.socket", one("Socket", "ListenStream=\""+x+"x\""), 3, "", "0.0:70"},
		{"a.socket", one("Socket", "ListenStream=\""+strings.Repeat(`\n`, 150)+"\""), 1, `Listen="` + strings.Repeat(`\n`, 150) + `"`, ""},
		{"a.socket", one("Socket"), 3, "", ""},
		{"a.socket", []string{""}, 3, "", ""},
		{"a.socket", one("Socket", "ListenStream=\"\""), 3, "", ""},
		{"a.socket", one("Socket", "ListenStream=a", "ListenStream=\"\""), 3, "", ""},
		{"a.socket", one("Socket", "Service=b.service"), 3, `Target="b.service"`, ""},
		{"a.socket", one("Socket", "ListenStream=a", "Service=\"b@.service\""), 1, `Listen="a" Target="b@.service"`, ""},
		{"a.socket", one("Socket", "ListenStream=a", "Service=b.service", "Service=c.socket", "Service=c.target", "Service=c", "Service=c.service d.service", "Service=\"\"", "Service=\"c.service", "Service="+x[:53]+".service"), 1, `Listen="a" Target="b.service"`, "0.2:70 0.3:70 0.4:70 0.5:70 0.6:70 0.7:50 0.8:70"},
		{"a.socket", one("Socket", "ListenStream=a", "Unit=%q"), 1, `Listen="a"`, ""},
	})
}

func TestTimers(t *testing.T) { // P7.3, P7.4
	checkTable(t, []row{
		{"a.timer", one("Timer"), 3, "", ""},
		{"a.timer", []string{""}, 3, "", ""},
		{"a.timer", one("Timer", "OnBootSec=0"), 1, "Boot=0", ""},
		{"a.timer", one("Timer", "OnUnitActiveSec=0"), 1, "Active=0", ""},
		{"a.timer", one("Timer", "OnBootSec=infinity", "OnUnitActiveSec=infinity"), 3, "", ""},
		{"a.timer", one("Timer", "OnBootSec=5", "OnBootSec=infinity"), 3, "", ""},
		{"a.timer", one("Timer", "OnBootSec=999999999999999999w"), 3, "", ""},
		{"a.timer", one("Timer", "OnCalendar=daily"), 1, `Calendars=["daily"]`, ""},
		{"a.timer", one("Timer", "OnCalendar=Mon..Fri *-*-* 08:00:00", "OnCalendar=daily", "OnCalendar=1:2", "OnCalendar=daily"), 1, `Calendars=["Mon..Fri *-*-* 08:00:00" "daily" "1:2" "daily"]`, ""},
		{"a.timer", one("Timer", "OnCalendar=x"), 3, "", "0.0:30"},
		{"a.timer", one("Timer", "OnCalendar=daily", "OnCalendar=\"daily\"", "OnCalendar=daily daily", "OnCalendar=Daily", "OnCalendar=*-13-*", "OnCalendar=8:00  9:00"), 1, `Calendars=["daily"]`, "0.1:30 0.2:30 0.3:30 0.4:30 0.5:30"},
		{"a.timer", one("Timer", strings.Repeat("OnCalendar=daily\n", 12)+"OnCalendar=x\nOnCalendar=weekly"), 1, fmt.Sprintf("Calendars=%q", slices.Repeat([]string{"daily"}, 12)), "0.12:30 0.13:70"},
		{"a.timer", one("Timer", "OnBootSec=1", "Unit=b.target"), 1, `Target="b.target" Boot=1`, ""},
		{"a.timer", one("Timer", "OnBootSec=1", "Unit='b@c.mount'"), 1, `Target="b@c.mount" Boot=1`, ""},
		{"a.timer", one("Timer", "OnBootSec=1", "Unit=b.target", "Unit=x", "Unit=b.path c.path", "Unit=\"\"", "Unit='"), 1, `Target="b.target" Boot=1`, "0.2:70 0.3:70 0.4:70 0.5:50"},
		{"a.timer", one("Timer", "OnBootSec=1", "Service=%q"), 1, "Boot=1", ""},
	})
}

func TestCalendarsOfManyBytes(t *testing.T) { // P7.2, P7.3
	for n, reports := range map[int]string{199: "", 200: "", 201: "0.0:70", 202: "0.0:70", 300: "0.0:70"} {
		text := calendarOf(n)
		u, l := Load("a.timer", one("Timer", "OnCalendar="+text))
		if len(text) != n || sayReports(l) != reports || (len(u.Calendars) == 1 && u.Calendars[0] == text) != (reports == "") {
			t.Errorf("%d bytes: %q, %v", len(text), u.Calendars, l)
		}
		if _, l := Load("a.timer", one("Timer", "OnCalendar="+text+"x")); sayReports(l) != "0.0:30" {
			t.Errorf("%d bytes and a wrong one: %v", len(text), l)
		}
	}
}

// calendarOf: an expression of just n bytes, from 194 to 304.
func calendarOf(n int) string {
	ones, zeros := "0001"+strings.Repeat(",0001", 11), "0000"+strings.Repeat(",0000", 11)
	text := "1970-" + ones + "-" + ones + " " + zeros + ":" + zeros + ":" + zeros
	for len(text) > n && strings.Contains(text, ",00") {
		text = strings.Replace(text, ",00", ",0", 1)
	}
	return text
}

func TestPathUnits(t *testing.T) { // P7.3, P7.4
	checkTable(t, []row{
		{"a.path", one("Path"), 3, "", ""},
		{"a.path", []string{""}, 3, "", ""},
		{"a.path", one("Path", "PathExists=/b"), 1, `Exists=["/b"]`, ""},
		{"a.path", one("Path", "PathChanged=/b"), 1, `Changed=["/b"]`, ""},
		{"a.path", one("Path", "PathChanged=/b", "PathExists=/c", "Unit=d.timer"), 1, `Target="d.timer" Exists=["/c"] Changed=["/b"]`, ""},
		{"a.path", one("Path", "PathExists=/b", "Unit=d.timer", "Unit=x", "Unit=", "Unit=e", "Unit=\"e.path", "Unit=e.path f.path"), 1, `Exists=["/b"]`, "0.1:70 0.2:50 0.3:70"},
		{"a.path", one("Path", "Unit=b.service"), 3, `Target="b.service"`, ""},
		{"a.path", one("Path", "PathExists=/b", "Service=%q"), 1, `Exists=["/b"]`, ""},
	})
}

func TestMounts(t *testing.T) { // P7.3, P7.4
	x := strings.Repeat("x", 199)
	checkTable(t, []row{
		{"mnt-d.mount", one("Mount", "What=dev", "Where=/mnt/d"), 1, `What="dev" Where="/mnt/d"`, ""},
		{"mnt-d.mount", one("Mount", "What=dev", "Where=/mnt/d/"), 1, `What="dev" Where="/mnt/d/"`, ""},
		{"mnt-d.mount", one("Mount", "What='a b'", "Where=\"/mnt/d\""), 1, `What="a b" Where="/mnt/d"`, ""},
		{"-.mount", one("Mount", "What=r", "Where=/"), 1, `What="r" Where="/"`, ""},
		{`a\x2db.mount`, one("Mount", "What=r", "Where=/a-b"), 1, `What="r" Where="/a-b"`, ""},
		{`a\x20b.mount`, one("Mount", "What=r", "Where='/a b'"), 1, `What="r" Where="/a b"`, ""},
		{"a-b.mount", one("Mount", "What=r", "Where=/a-b"), 3, `What="r" Where="/a-b"`, ""},
		{"mnt-d.mount", one("Mount", "What=r", "Where=/d"), 3, `What="r" Where="/d"`, ""},
		{"mnt-d.mount", one("Mount", "What=r", "Where=/mnt"), 3, `What="r" Where="/mnt"`, ""},
		{"mnt-e.mount", one("Mount", "What=r", "Where=/mnt/d"), 3, `What="r" Where="/mnt/d"`, ""},
		{"mnt-d.mount", one("Mount", "What=r", "Where=/mnt/e", "Where=/mnt/d", "Where=mnt", "Where=/mnt/e /", "Where=\"", "Where=/"+x+"x"), 1, `What="r" Where="/mnt/d"`, "0.3:70 0.4:70 0.5:50 0.6:70"},
		{"a@b.mount", one("Mount", "What=r", "Where=/a@b"), 3, `What="r" Where="/a@b"`, ""},
		{"a.mount", one("Mount", "What=r"), 3, `What="r"`, ""},
		{"a.mount", one("Mount", "Where=/a"), 3, `Where="/a"`, ""},
		{"a.mount", one("Mount", "What=\"\"", "Where=/a"), 3, `Where="/a"`, ""},
		{"a.mount", one("Mount"), 3, "", ""},
		{"a.mount", []string{""}, 3, "", ""},
		{"a.mount", one("Mount", "What=a b", "Where=/a"), 3, `Where="/a"`, "0.0:70"},
		{"a.mount", one("Mount", "What='", "Where=/a"), 3, `Where="/a"`, "0.0:50"},
		{"a.mount", one("Mount", "What="+x+"x", "Where=/a"), 1, `What="` + x + `x" Where="/a"`, ""},
		{"a.mount", one("Mount", "What="+x+"xx", "Where=/a"), 3, `Where="/a"`, "0.0:70"},
		{"a.mount", one("Mount", "What=r", "Where=/"+x), 3, `What="r" Where="/` + x + `"`, ""},
		{"a.mount", one("Mount", "What=r", "Where=//a"), 3, `What="r"`, "0.1:70"},
	})
}

func TestServices(t *testing.T) { // P7.3, P7.4
	checkTable(t, []row{
		{"a.service", []string{""}, 3, "", ""},
		{"a.service", one("Service"), 3, "", ""},
		{"a.service", one("Service", "ExecStart=a"), 1, `Start=["a"]`, ""},
		{"a.service", one("Service", "ExecStart=a", "ExecStart=b"), 3, `Start=["a" "b"]`, ""},
		{"a.service", one("Service", "ExecStart=a", "ExecStart=%q"), 1, `Start=["a"]`, "0.1:42"},
		{"a.service", one("Service", "ExecStop=a"), 3, `Stop=["a"]`, ""},
		{"a.service", one("Service", "ExecStartPre=a"), 3, `Pre=["a"]`, ""},
		{"a.service", one("Service", "ExecStart=a", "Restart=always"), 1, `Restart=3 Start=["a"]`, ""},
		{"a.service", one("Service", "Type=oneshot"), 3, "Type=4", ""},
		{"a.service", one("Service", "Type=oneshot", "ExecStartPre=a"), 3, `Type=4 Pre=["a"]`, ""},
		{"a.service", one("Service", "Type=oneshot", "ExecStart=a"), 1, `Type=4 Start=["a"]`, ""},
		{"a.service", one("Service", "ExecStart=a", "Type=oneshot", "ExecStart=b"), 1, `Type=4 Start=["a" "b"]`, ""},
		{"a.service", one("Service", "Type=oneshot", "ExecStop=a"), 1, `Type=4 Stop=["a"]`, ""},
		{"a.service", one("Service", "Type=oneshot", "ExecStart=a", "Restart=on-failure"), 1, `Type=4 Restart=2 Start=["a"]`, ""},
		{"a.service", one("Service", "Type=oneshot", "ExecStart=a", "Restart=always"), 3, `Type=4 Restart=3 Start=["a"]`, ""},
		{"a.service", one("Service", "Type=oneshot", "ExecStop=a", "Restart=always"), 3, `Type=4 Restart=3 Stop=["a"]`, ""},
		{"a.service", one("Service", "Type=oneshot", "ExecStart=a", "Restart=always", "Restart=no"), 1, `Type=4 Start=["a"]`, ""},
		{"a@.service", one("Service", "ExecStart=a"), 1, `Start=["a"]`, ""},
	})
	for i, word := range []string{"simple", "exec", "forking", "oneshot", "notify"} {
		for _, restart := range []string{"no", "on-failure", "always"} {
			for starts := range 3 {
				for stops := range 2 {
					want := api.Broken
					if word != "oneshot" && starts == 1 || word == "oneshot" && starts+stops > 0 && restart != "always" {
						want = api.Loaded
					}
					text := "[Service]\nType=" + word + "\nRestart=" + restart + "\n" + strings.Repeat("ExecStart=a\n", starts) + strings.Repeat("ExecStop=a\n", stops)
					if u, l := Load("a.service", []string{text}); u.Load != want || len(l) != 0 || u.Type != i+1 {
						t.Errorf("%q: %d, %v", text, u.Load, l)
					}
				}
			}
		}
	}
}

func TestTargets(t *testing.T) { // P7.3, P7.4
	checkTable(t, []row{
		{"a.target", []string{""}, 1, "", ""},
		{"a.target", one("Unit", "Wants=x", "DefaultDependencies=x"), 1, "", "0.0:70 0.1:70"},
		{"a.target", one("Unit", "DefaultDependencies=no", "Wants=b.service c.target", "Requires=d.mount", "BindsTo=e.path", "PartOf=f.timer", "Conflicts=g.socket", "After=h.service", "Before=i.service"), 1,
			`Wants=["b.service" "c.target"] Requires=["d.mount"] BindsTo=["e.path"] PartOf=["f.timer"] Conflicts=["g.socket"] After=["h.service"] Before=["i.service"] Plain=true`, ""},
		{"a.target", []string{"", "x"}, 3, "", "1.1:50"},
	})
}
