package tree

import (
	"fmt"
	"math/rand"
	"slices"
	"strings"
	"testing"

	"reveille/api"
)

// part: of so many bytes.
func part(bytes int) string { return strings.Repeat("x", bytes) }

// deep: a path of so many parts.
func deep(parts int) string { return strings.Repeat("/d", parts) }

func paths(x *Tree) []string {
	var l []string
	for path := range x.All() {
		l = append(l, path)
	}
	return l
}

// changing: the words of the calls that answer an error.
func changing() []string {
	return []string{"folder", "file", "touch", "remove", "mount", "unmount"}
}

// somePaths: of one part.
func somePaths() []string {
	return []string{"/a", "/ ", "/\n", "/\x01", "/\x7f", "/\x80", "/\xff\xfe", "/ä", "/...", "/.a", "/a.", "/..a", "/a..", "/. ", "/ .", "/-", "/\\", "/0", "/:", "/%", "/~", "/a b", "/" + part(39), "/" + part(40), "/" + strings.Repeat("ä", 20), "/" + strings.Repeat(".", 40)}
}

// noPaths: wrong ones.
func noPaths() []string {
	return []string{
		"", "a", "a/", "a/b", ".", "..", " ", " /", " /a", "\x00", "\x00/a", "./a", "../a",
		"//", "///", "//a", "/a/", "/a//", "/a//b", "/d/", "/d//d", "//d/d", "/d/d/",
		"/.", "/..", "/./", "/../", "/./a", "/../a", "/a/.", "/a/..", "/a/./b", "/a/../b", "/d/.", "/d/..", "/d/./d", "/d/../d",
		"/\x00", "/a\x00", "/\x00a", "/a\x00b", "/d/\x00", "/d\x00/d", "/d/d\x00",
		"/" + part(41), "/" + part(42), "/" + part(100000), "/d/" + part(41), "/" + part(41) + "/d", "/" + strings.Repeat("ä", 21), "/" + strings.Repeat("\x00", 40),
		deep(9), deep(10), deep(100000), deep(8) + "/", "/" + deep(8), deep(8) + "/.", deep(7) + "/..", deep(7) + "//",
	}
}

func TestNewIsTheRootAlone(t *testing.T) { // P11.1, P11.2, P11.3
	x := New()
	if got := say(x); got != "+/:0" || !x.Exists("/") {
		t.Error(got)
	}
	for _, path := range append(somePaths(), noPaths()...) {
		what, ok := x.Mounted(path)
		if x.Exists(path) || x.Stamp(path) != 0 || what != "" || ok {
			t.Errorf("%.50q: %v, %d, %q, %v", path, x.Exists(path), x.Stamp(path), what, ok)
		}
	}
}

func TestExample(t *testing.T) { // P11.2: the chapter's
	x := New()
	if a, b := x.Make("/a", true), x.Make("/a/b", false); a != 0 || b != 0 || x.Stamp("/a") != 2 {
		t.Errorf("%d, %d, %d", a, b, x.Stamp("/a"))
	}
}

func TestPaths(t *testing.T) { // P11.1, P11.3
	for _, path := range somePaths() {
		x := New()
		for i, want := range []api.Errno{110, 110, 110, 110, 0, 112, 112, 0, 0, 112, 112, 0, 110, 0, 0, 112, 112, 110, 110, 0, 0, 110} {
			word := []string{"touch", "remove", "mount", "unmount", "folder", "folder", "file", "touch", "mount", "mount", "remove", "unmount", "unmount", "remove", "file", "folder", "file", "mount", "unmount", "touch", "remove", "remove"}[i]
			if r := run(x, call{word: word, path: path}); r.err != want {
				t.Errorf("%q: %s, number %d, answered %d, wanted %d", path, word, i, r.err, want)
			}
		}
		if x.Stamp(path) != 6 || x.Stamp("/") != 4 || say(x) != "+/:4" {
			t.Errorf("%q: %d, %s", path, x.Stamp(path), say(x))
		}
	}
}

func TestNoPathIsRefused(t *testing.T) { // P11.1, P11.2, P11.3
	x := build(t, "+/a +/d +/d/d >/d:x")
	for i := 3; i <= 8; i++ {
		x.Make(deep(i), true)
	}
	before := say(x)
	for _, path := range noPaths() {
		for _, word := range changing() {
			if r := run(x, call{word: word, path: path}); r.err != 111 {
				t.Errorf("%s of %.50q: %d", word, path, r.err)
			}
		}
		what, ok := x.Mounted(path)
		if x.Exists(path) || x.Stamp(path) != 0 || what != "" || ok {
			t.Errorf("%.50q: %v, %d, %q, %v", path, x.Exists(path), x.Stamp(path), what, ok)
		}
	}
	if say(x) != before {
		t.Errorf("%s became %s", before, say(x))
	}
}

// isOne: whether a tree takes a text as a path.
func isOne(x *Tree, path string) bool { return x.Touch(path) != 111 }

func TestEachByte(t *testing.T) { // P11.1
	x := New()
	for b := range 256 {
		s := string([]byte{byte(b)})
		no := b == 0 || b == '/' // in no part
		for path, want := range map[string]bool{
			s:                  b == '/',
			s + "a":            b == '/',
			s + "/a":           false,
			"/" + s:            !no && b != '.',
			"/a/" + s:          !no && b != '.',
			"/" + s + "/a":     !no && b != '.',
			"/a" + s:           !no,
			"/" + s + "a":      b != 0 && b != '/',
			"/." + s:           !no && b != '.',
			"/a" + s + "a":     b != 0, // with `/` two parts
			"/" + part(39) + s: !no,
			"/" + part(40) + s: false,
			deep(8) + s:        !no,
			deep(8) + s + "a":  !no,
		} {
			if got := isOne(x, path); got != want {
				t.Errorf("%q: %v, wanted %v", path, got, want)
			}
		}
	}
}

func TestShortTextsAgainstWords(t *testing.T) { // P11.1
	x := New()
	pieces := []string{"/", ".", "a", "\x00", "\xff", part(20), "/" + part(40), "/b/c/d"}
	count := 0
	var grow func(string, int)
	grow = func(text string, left int) {
		if got, want := isOne(x, text), pathByWords(text); got != want {
			t.Fatalf("%q: %v, wanted %v", text, got, want)
		} else if got {
			count++
		}
		if left == 0 {
			return
		}
		for _, p := range pieces {
			grow(text+p, left-1)
		}
	}
	grow("", 5)
	if count < 1000 {
		t.Errorf("only %d paths", count)
	}
}

func TestDepth(t *testing.T) { // P11.1, P11.3: MaxDepth parts
	long := ""
	x := New()
	for i := 1; i <= 9; i++ {
		long += "/" + part(40)
		want := api.Errno(0)
		if i == 9 {
			want = 111
		}
		for _, path := range []string{deep(i), long} {
			if err := x.Make(path, true); err != want {
				t.Errorf("%d parts: Make: %d", i, err)
			}
			if a, b, c := x.Touch(path), x.Mount("x", path), x.Unmount(path); a != want || b != want || c != want {
				t.Errorf("%d parts: %d, %d, %d", i, a, b, c)
			}
			if x.Exists(path) != (want == 0) || x.Make(path+"/", false) != 111 {
				t.Errorf("%d parts: %v", i, x.Exists(path))
			}
		}
	}
	if got := len(paths(x)); got != 17 || x.Stamp(deep(8)) != 2 || x.Stamp(deep(7)) != 3 {
		t.Errorf("%d, %s", got, say(x))
	}
}

func TestMake(t *testing.T) { // P11.1, P11.2
	for _, row := range []struct{ calls, want string }{
		{"+/a", "+/:1 +/a:1"},
		{"=/a", "+/:1 =/a:1"},
		{"+/a =/a/b", "+/:1 +/a:2 =/a/b:1"},
		{"+/a +/a/b =/a/b/c", "+/:1 +/a:2 +/a/b:2 =/a/b/c:1"},
		{"+/a +/b =/a/b =/b/a", "+/:2 +/a:2 =/a/b:1 +/b:2 =/b/a:1"},
		{"+/a =/ab", "+/:2 +/a:1 =/ab:1"},
		{"=/a -/a +/a", "+/:3 +/a:3"}, // another kind
		{"+/a -/a =/a", "+/:3 =/a:3"},
		{"+/a >/a:x =/a/b", "+/:1 +/a:2<x =/a/b:1"}, // also below a mount
	} {
		if got := say(build(t, row.calls)); got != row.want {
			t.Errorf("%s: %s, wanted %s", row.calls, got, row.want)
		}
	}
}

func TestMakeIsRefused(t *testing.T) { // P11.1
	x := build(t, "+/a =/a/b =/f +/g -/g >/a:x !/f")
	before := say(x)
	for path, want := range map[string]api.Errno{
		"/": 112, "/a": 112, "/a/b": 112, "/f": 112, // it is there
		"/g/a": 110, "/z/a": 110, "/a/z/a": 110, "/z/z/z": 110, // its folder isn't
		"/a/b/c": 110, "/f/a": 110, "/f/a/b": 110, // or is a file
		"/A/b": 110, "/a /b": 110, "/aa/b": 110,
		"/a/b/": 111, "/a/": 111, "/f/": 111, "/z/": 111, "a": 111, "": 111, // all else beside it
	} {
		for _, folder := range []bool{true, false} {
			if err := x.Make(path, folder); err != want {
				t.Errorf("Make(%q, %v): %d, wanted %d", path, folder, err, want)
			}
		}
	}
	if say(x) != before || x.Stamp("/g") != 2 || x.Stamp("/g/a") != 0 || x.Stamp("/f/a") != 0 {
		t.Errorf("%s became %s", before, say(x))
	}
}

func TestTouch(t *testing.T) { // P11.1, P11.2
	for _, row := range []struct{ calls, want string }{
		{"!/", "+/:1"},
		{"!/ !/ !/", "+/:3"},
		{"=/a !/a", "+/:1 =/a:2"}, // its folder's stays
		{"+/a !/a !/a", "+/:1 +/a:3"},
		{"+/a =/a/b !/a/b !/a/b", "+/:1 +/a:2 =/a/b:3"},
		{"+/a =/a/b !/a", "+/:1 +/a:3 =/a/b:1"},     // so does that of what is in it
		{"+/a >/a:x !/a", "+/:1 +/a:2<x"},           // mounted or not
		{"=/a !/a -/a =/a !/a", "+/:3 =/a:5"},       // of both that stood there
		{"+/a +/ab !/ab", "+/:2 +/a:1 +/ab:2"},      // of no other one
		{"=/a =/b !/a !/b !/a", "+/:2 =/a:3 =/b:2"}, // each for itself
	} {
		if got := say(build(t, row.calls)); got != row.want {
			t.Errorf("%s: %s, wanted %s", row.calls, got, row.want)
		}
	}
}

func TestTouchIsRefused(t *testing.T) { // P11.1
	x := build(t, "+/a =/a/b =/f +/g -/g")
	before := say(x)
	for path, want := range map[string]api.Errno{"/g": 110, "/z": 110, "/a/c": 110, "/a/b/c": 110, "/z/a": 110, "/A": 110, "/aa": 110, "/a/": 111, "a": 111, "": 111, "//": 111} {
		if err := x.Touch(path); err != want {
			t.Errorf("Touch(%q): %d, wanted %d", path, err, want)
		}
	}
	if say(x) != before || x.Stamp("/g") != 2 || x.Stamp("/z") != 0 || x.Stamp("/a/") != 0 || x.Stamp("") != 0 {
		t.Errorf("%s became %s", before, say(x))
	}
}

func TestRemove(t *testing.T) { // P11.1, P11.2
	for _, row := range []struct{ calls, want string }{
		{"+/a -/a", "+/:2"},
		{"=/a -/a", "+/:2"},
		{"+/a =/a/b -/a/b", "+/:1 +/a:3"},
		{"+/a =/a/b -/a/b -/a", "+/:2"}, // empty again
		{"+/a =/a/b =/a/c -/a/b", "+/:1 +/a:4 =/a/c:1"},
		{"+/a =/a/b =/a/c -/a/b -/a/c -/a", "+/:2"},
		{"+/a +/ab -/a", "+/:3 +/ab:1"}, // what begins alike isn't in it
		{"+/a =/ab -/a", "+/:3 =/ab:1"},
		{"+/a +/b =/b/a -/a", "+/:3 +/b:2 =/b/a:1"},
		{"+/a >/a:x </a -/a", "+/:2"},         // nothing is mounted any more
		{"+/a +/b >/b:x -/a", "+/:3 +/b:1<x"}, // nor on it
		{"+/a >/:x -/a", "+/:2<x"},
		{"+/a >/a:x =/a/b -/a/b", "+/:1 +/a:3<x"}, // below a mount
		{"+/a +/a/b -/a/b -/a +/a -/a", "+/:4"},
	} {
		if got := say(build(t, row.calls)); got != row.want {
			t.Errorf("%s: %s, wanted %s", row.calls, got, row.want)
		}
	}
}

func TestRemoveIsRefused(t *testing.T) { // P11.1
	x := build(t, "+/a =/a/b =/f +/g -/g +/m >/m:x +/n =/n/a >/n +/e >/e")
	before := say(x)
	for range 2 {
		for path, want := range map[string]api.Errno{
			"/": 112, "/a": 112, // not empty
			"/m": 112, "/e": 112, // something is mounted, if only the empty text
			"/n": 112,                                                   // both
			"/g": 110, "/z": 110, "/a/c": 110, "/a/b/c": 110, "/A": 110, // not there
			"/a/": 111, "//": 111, "a": 111, "": 111, "/m/": 111,
		} {
			if err := x.Remove(path); err != want {
				t.Errorf("Remove(%q): %d, wanted %d", path, err, want)
			}
		}
	}
	if say(x) != before || x.Stamp("/g") != 2 || x.Stamp("/z") != 0 {
		t.Errorf("%s became %s", before, say(x))
	}
	if err := New().Remove("/"); err != 112 { // even if it is empty
		t.Error(err)
	}
}

func TestExists(t *testing.T) { // P11.1
	x := build(t, "+/a =/a/b =/f +/g -/g =/h -/h +/h")
	for path, want := range map[string]bool{"/": true, "/a": true, "/a/b": true, "/f": true, "/h": true, "/g": false, "/z": false, "/b": false, "/a/c": false, "/a/b/c": false, "a": false, "/a/": false, "//": false, "": false, "/a/b/": false, "/./a": false, "/A": false} {
		if got := x.Exists(path); got != want {
			t.Errorf("Exists(%q): %v", path, got)
		}
	}
}

func TestAllIsRising(t *testing.T) { // P11.1
	want := []string{"/", "/\x01", "/ ", "/-", "/10", "/2", "/A", "/B", "/a", "/a ", "/a!", "/a!/b", "/a-", "/a.", "/a/b", "/a/b-", "/a/b/c", "/a/c", "/a0", "/aa", "/ab", "/b", "/z", "/\x7f", "/\x80", "/ä", "/\xff", "/\xff\xff"}
	if !slices.IsSorted(want) { // `/` is one of the bytes: /a! is ahead of /a/b
		t.Fatal("no order")
	}
	x := New()
	r := rand.New(rand.NewSource(1))
	for len(paths(x)) < len(want) { // some are refused until their folders are there
		x.Make(want[r.Intn(len(want))], true)
	}
	for range 20 { // a map would show its order sooner or later
		if got := paths(x); !slices.Equal(got, want) {
			t.Fatalf("%q", got)
		}
	}
}

func TestAllTellsFolders(t *testing.T) { // P11.1
	x := build(t, "+/a =/a/b +/a/c =/f =/g -/g +/g +/h -/h =/h >/a:x !/f")
	got := ""
	for path, folder := range x.All() {
		got += fmt.Sprint(path, " ", folder, ", ")
	}
	if got != "/ true, /a true, /a/b false, /a/c true, /f false, /g true, /h false, " {
		t.Error(got)
	}
}

func TestAllIsLeftAndGoneThroughAgain(t *testing.T) { // P11.1
	x := build(t, "=/d +/b +/a =/a/c")
	want := []string{"/ true", "/a true", "/a/c false", "/b true", "/d false"}
	all := x.All()
	for most := range len(want) {
		var got []string
		for path, folder := range all {
			got = append(got, fmt.Sprint(path, " ", folder))
			if len(got) > most {
				break
			}
		}
		if !slices.Equal(got, want[:most+1]) {
			t.Errorf("left at %d: %q", most, got)
		}
	}
	seen := 0
	for path, folder := range all {
		inner := 0
		for other, kind := range all {
			if fmt.Sprint(other, " ", kind) != want[inner] {
				t.Errorf("within another: %q, %v", other, kind)
			}
			inner++
		}
		if fmt.Sprint(path, " ", folder) != want[seen] || inner != len(want) {
			t.Errorf("%q, %v; %d within", path, folder, inner)
		}
		seen++
	}
	if seen != len(want) {
		t.Errorf("%d of %d", seen, len(want))
	}
}

func TestAllGivesWhatIsThereThen(t *testing.T) { // P11.1
	x := New()
	all := x.All()
	calls := readCalls("+/b =/a -/b +/a =/a/b -/a +/b =/b/c -/a >/b:x -/b/c </b -/b")
	for i, want := range []string{"/+ /b+", "/+ /a= /b+", "/+ /a=", "/+ /a=", "/+ /a=", "/+", "/+ /b+", "/+ /b+ /b/c=", "/+ /b+ /b/c=", "/+ /b+ /b/c=", "/+ /b+", "/+ /b+", "/+"} {
		run(x, calls[i])
		var got []string
		for path, folder := range all {
			got = append(got, path+map[bool]string{true: "+", false: "="}[folder])
		}
		if strings.Join(got, " ") != want {
			t.Errorf("%v: %q, wanted %s", calls[:i+1], got, want)
		}
	}
}

func TestStamp(t *testing.T) { // P11.2
	for _, row := range []struct {
		calls string
		want  map[string]int
	}{
		{"", map[string]int{"/": 0, "/a": 0, "": 0, "a": 0}},
		{"+/a", map[string]int{"/": 1, "/a": 1, "/a/b": 0, "/a/": 0, "a": 0, "//": 0}},
		{"+/a +/a/b =/a/b/c", map[string]int{"/": 1, "/a": 2, "/a/b": 2, "/a/b/c": 1}},                 // right below alone
		{"+/a +/a/b =/a/b/c !/a/b/c -/a/b/c", map[string]int{"/": 1, "/a": 2, "/a/b": 3, "/a/b/c": 3}}, // what is gone keeps it
		{"=/a -/a", map[string]int{"/": 2, "/a": 2}},
		{"=/a -/a =/a", map[string]int{"/": 3, "/a": 3}},
		{"=/a !/a -/a +/a !/a", map[string]int{"/": 3, "/a": 5}}, // whatever it was
		{"+/a =/a/b -/a/b -/a", map[string]int{"/": 2, "/a": 4, "/a/b": 2}},
		{"+/a =/a/b -/a/b -/a =/a", map[string]int{"/": 3, "/a": 5, "/a/b": 2}}, // a folder stood there
		{"+/a =/a/b -/a/b -/a =/a !/a -/a +/a =/a/b", map[string]int{"/": 5, "/a": 9, "/a/b": 3}},
		{"+/a =/a/b !/a/b", map[string]int{"/": 1, "/a": 2, "/a/b": 2}}, // touched isn't made
		{"!/ !/ +/a", map[string]int{"/": 3, "/a": 1}},
		{"+/a >/a:x", map[string]int{"/": 1, "/a": 1}}, // mounts are nothing of it
		{"+/a >/a:x </a >/:y </", map[string]int{"/": 1, "/a": 1}},
		{"+/a +/ab =/ab/c", map[string]int{"/": 2, "/a": 1, "/ab": 2}},
	} {
		x := build(t, row.calls)
		for path, want := range row.want {
			if got := x.Stamp(path); got != want {
				t.Errorf("%s: Stamp(%q): %d, wanted %d", row.calls, path, got, want)
			}
		}
	}
}

func TestStampsCountOn(t *testing.T) { // P11.2
	x := build(t, "+/a")
	for i := range 10000 {
		if x.Touch("/a") != 0 || x.Make("/a/b", i%2 == 0) != 0 || x.Remove("/a/b") != 0 {
			t.Fatal(i)
		}
	}
	if x.Stamp("/a") != 30001 || x.Stamp("/a/b") != 20000 || x.Stamp("/") != 1 {
		t.Error(say(x))
	}
}

func TestMount(t *testing.T) { // P11.3
	for _, row := range []struct{ calls, want string }{
		{"+/a >/a:x", "+/:1 +/a:1<x"},
		{">/:x", "+/:0<x"},
		{">/", "+/:0<"},
		{"+/a +/a/b >/a:x >/a/b:y >/:z", "+/:1<z +/a:2<x +/a/b:1<y"}, // in any order
		{"+/a +/a/b >/a/b:y >/:z >/a:x", "+/:1<z +/a:2<x +/a/b:1<y"},
		{"+/a +/b >/a:x >/b:x", "+/:2 +/a:1<x +/b:1<x"}, // the same on two
		{"+/a =/a/b >/a:x", "+/:1 +/a:2<x =/a/b:1"},     // on one that isn't empty
		{"+/a >/a:x </a >/a:y", "+/:1 +/a:1<y"},
		{"+/a >/a:x </a -/a +/a", "+/:3 +/a:3"},
		{"=/a -/a +/a >/a:x", "+/:3 +/a:3<x"},
	} {
		if got := say(build(t, row.calls)); got != row.want {
			t.Errorf("%s: %s, wanted %s", row.calls, got, row.want)
		}
	}
}

func TestMountTakesAllTexts(t *testing.T) { // P11.3: what is no path
	for _, what := range append(append(noPaths(), somePaths()...), "/", "/a", "/dev/sda1") {
		x := build(t, "+/a")
		if err := x.Mount(what, "/a"); err != 0 {
			t.Errorf("Mount(%.50q): %d", what, err)
		}
		if got, ok := x.Mounted("/a"); got != what || !ok {
			t.Errorf("Mounted: %.50q, %v, wanted %.50q", got, ok, what)
		}
	}
}

func TestMountIsRefused(t *testing.T) { // P11.3
	x := build(t, "+/a =/a/b =/f +/g -/g +/m >/m:x +/e >/e +/h -/h =/h")
	before := say(x)
	for range 2 {
		for path, want := range map[string]api.Errno{
			"/f": 110, "/a/b": 110, "/h": 110, // files
			"/g": 110, "/z": 110, "/a/c": 110, "/f/a": 110, "/A": 110,
			"/m": 112, "/e": 112,
			"/m/": 111, "/f/": 111, "//": 111, "m": 111, "": 111, ".": 111,
		} {
			for _, what := range []string{"x", "y", "", "/a"} {
				if err := x.Mount(what, path); err != want {
					t.Errorf("Mount(%q, %q): %d, wanted %d", what, path, err, want)
				}
			}
		}
	}
	if say(x) != before {
		t.Errorf("%s became %s", before, say(x))
	}
	for _, path := range []string{"/m", "/e"} { // those that were refused aren't counted
		if err := x.Unmount(path); err != 0 {
			t.Errorf("Unmount(%q): %d", path, err)
		}
	}
}

func TestUnmount(t *testing.T) { // P11.3
	for _, row := range []struct{ calls, want string }{
		{"+/a >/a:x </a", "+/:1 +/a:1"},
		{">/:x </", "+/:0"},
		{"+/a >/a:x >/:y </a </", "+/:1 +/a:1"}, // from below
		{"+/a >/:y >/a:x </a </", "+/:1 +/a:1"},
		{"+/a +/a/b >/a:x >/a/b:y </a/b", "+/:1 +/a:2<x +/a/b:1"}, // what is above it stays
		{"+/a +/ab >/a:x >/ab:y </a", "+/:2 +/a:1 +/ab:1<y"},      // what begins alike isn't below it
		{"+/a +/ab +/ab/c >/a:x >/ab/c:y </a", "+/:2 +/a:1 +/ab:2 +/ab/c:1<y"},
		{"+/a +/b >/a:x >/b:y </a", "+/:2 +/a:1 +/b:1<y"},
		{"+/a +/b +/b/a >/a:x >/b/a:y </a", "+/:2 +/a:1 +/b:2 +/b/a:1<y"},
		{"+/a >/a:x =/a/b </a", "+/:1 +/a:2 =/a/b:1"}, // files below it are no matter
		{"+/a >/a:x </a >/a:y </a", "+/:1 +/a:1"},
		{"+/a +/a/b >/a/b:y </a/b -/a/b >/a:x </a", "+/:1 +/a:3"},
	} {
		if got := say(build(t, row.calls)); got != row.want {
			t.Errorf("%s: %s, wanted %s", row.calls, got, row.want)
		}
	}
}

func TestUnmountIsRefused(t *testing.T) { // P11.3
	x := build(t, "+/a +/a/b +/a/b/c +/a/b/c/d >/a:x >/a/b/c/d:y >/a/b/c +/m >/m +/m/n >/m/n =/f +/g -/g")
	before := say(x)
	for range 2 {
		for path, want := range map[string]api.Errno{
			"/a": 112, "/a/b/c": 112, "/m": 112, // right below it, or further down
			"/": 110, "/a/b": 110, // nothing is, though something is below it
			"/f": 110, "/g": 110, "/z": 110, "/f/a": 110, "/A": 110,
			"/a/": 111, "//": 111, "a": 111, "": 111, "..": 111,
		} {
			if err := x.Unmount(path); err != want {
				t.Errorf("Unmount(%q): %d, wanted %d", path, err, want)
			}
		}
	}
	if say(x) != before {
		t.Errorf("%s became %s", before, say(x))
	}
	for i, path := range []string{"/a/b/c/d", "/a/b/c", "/a", "/m/n", "/m"} { // from below each one goes
		if err := x.Unmount(path); err != 0 {
			t.Errorf("%d: Unmount(%q): %d", i, path, err)
		}
		if err := x.Unmount(path); err != 110 {
			t.Errorf("%d: Unmount(%q) again: %d", i, path, err)
		}
	}
}

func TestMounted(t *testing.T) { // P11.3
	x := build(t, "+/a +/a/b >/a:x +/e >/e =/f +/u >/u:y </u +/g >/g:z </g -/g +/h >/h:q </h -/h +/h")
	for path, want := range map[string]string{"/a": "x true", "/e": " true", "/": " false", "/a/b": " false", "/f": " false", "/u": " false", "/g": " false", "/h": " false", "/z": " false", "": " false", "a": " false", "/a/": " false", "x": " false"} {
		what, ok := x.Mounted(path)
		if got := fmt.Sprint(what, " ", ok); got != want {
			t.Errorf("Mounted(%q): %s, wanted %s", path, got, want)
		}
	}
}

func TestReadingChangesNothing(t *testing.T) { // P11.1, P11.2, P11.3
	x := build(t, "+/a =/a/b =/f >/a:x +/g -/g")
	before := say(x)
	for range 3 {
		for _, path := range append(noPaths(), "/", "/a", "/a/b", "/f", "/g", "/z", "/z/z") {
			x.Exists(path)
			x.Stamp(path)
			x.Mounted(path)
		}
		for range x.All() {
			break
		}
	}
	if say(x) != before || x.Exists("/z") || x.Stamp("/g") != 2 {
		t.Errorf("%s became %s", before, say(x))
	}
}

func TestTreesAreApart(t *testing.T) { // P11.1, P11.2, P11.3
	x, y := build(t, "+/a >/a:x =/f"), build(t, "=/a")
	if err := y.Mount("y", "/a"); err != 110 || y.Touch("/f") != 110 || y.Make("/f", true) != 0 || y.Touch("/") != 0 {
		t.Error(err)
	}
	if got, other := say(x), say(y); got != "+/:2 +/a:1<x =/f:1" || other != "+/:3 =/a:1 +/f:1" || say(New()) != "+/:0" {
		t.Errorf("%s, %s, %s", got, other, say(New()))
	}
}

func TestZeroTreeTakesAllCalls(t *testing.T) { // no call panics
	var x Tree
	for range 2 {
		for _, path := range append(noPaths(), "/", "/a", "/a/b") {
			for _, word := range append(changing(), "exists", "stamp", "mounted") {
				run(&x, call{word: word, path: path})
			}
		}
		say(&x)
	}
}

func TestManyFiles(t *testing.T) { // P11.1, P11.2, P11.4
	const folders, files = 300, 100
	x := New()
	r := rand.New(rand.NewSource(3))
	folder := func(i int) string { return fmt.Sprintf("/f%03d", i) }
	file := func(i int) string { return fmt.Sprintf("%s/%02d", folder(i%folders), i/folders) }
	for _, i := range r.Perm(folders) {
		x.Make(folder(i), true)
	}
	for _, i := range r.Perm(folders * files) {
		if err := x.Make(file(i), false); err != 0 {
			t.Fatalf("%s: %d", file(i), err)
		}
	}
	if got := paths(x); len(got) != 1+folders+folders*files || !slices.IsSorted(got) {
		t.Errorf("%d are there", len(got))
	}
	for _, i := range r.Perm(folders * files) {
		if err := x.Remove(folder(i % folders)); err != 112 {
			t.Fatalf("%s: %d", folder(i%folders), err)
		}
		if err := x.Remove(file(i)); err != 0 {
			t.Fatalf("%s: %d", file(i), err)
		}
	}
	for i := range folders {
		if got := x.Stamp(folder(i)); got != 1+2*files || x.Remove(folder(i)) != 0 {
			t.Fatalf("%s: %d", folder(i), got)
		}
	}
	if got := say(x); got != fmt.Sprint("+/:", 2*folders) {
		t.Error(got)
	}
}

func TestManyMounts(t *testing.T) { // P11.3
	const count = 2000
	x := build(t, "+/a >/a:top")
	at := func(i int) string { return fmt.Sprintf("/a/%03d", i) }
	for i := range count {
		if x.Make(at(i), true) != 0 || x.Mount(at(i), at(i)) != 0 || x.Mount("", at(i)) != 112 {
			t.Fatal(i)
		}
	}
	for i, n := range rand.New(rand.NewSource(4)).Perm(count) {
		if what, ok := x.Mounted(at(n)); what != at(n) || !ok || x.Unmount("/a") != 112 || x.Remove(at(n)) != 112 || x.Unmount(at(n)) != 0 {
			t.Fatalf("%d: %q, %v", i, what, ok)
		}
	}
	if err := x.Unmount("/a"); err != 0 {
		t.Error(err)
	}
}

// each: all rows of just so many of the calls.
func each(calls []call, length int, do func([]call)) {
	row := make([]call, length)
	var fill func(int)
	fill = func(i int) {
		if i == length {
			do(row)
			return
		}
		for _, c := range calls {
			row[i] = c
			fill(i + 1)
		}
	}
	fill(0)
}

func TestAllShortRowsOfCalls(t *testing.T) { // P11.1, P11.2, P11.3, P11.4
	for _, part := range []struct {
		first, calls string
		most         int
	}{
		{"", "+/a =/a +/a/b =/a/b -/a -/a/b !/a !/a/b !/", 5},
		{"", "+/a >/a:x >/:y </a </ -/a =/a", 6},
		{"+/a +/a/b +/ab", ">/:r >/a:x >/a/b:y >/ab:z </ </a </a/b </ab", 5},
		{"+/a +/a/b +/a/b/c", ">/a:x >/a/b/c:y </a </a/b/c -/a/b/c +/a/b/c", 5},
		{"+/a +/a/b", "=/a/b/c -/a/b/c -/a/b -/a =/a/b +/a/b >/a/b:x </a/b", 5},
	} {
		first := readCalls(part.first)
		var asked []string
		for _, c := range readCalls(part.calls) {
			asked = append(asked, c.path)
		}
		for length := range part.most + 1 {
			each(readCalls(part.calls), length, func(row []call) {
				x, m := New(), &model{}
				for _, c := range slices.Concat(first, row) {
					if got, want := run(x, c), m.run(c); got != want {
						t.Fatalf("%s, %v: %v answered %v, wanted %v", part.first, row, c, got, want)
					}
				}
				check(t, x, m, asked, row)
			})
		}
	}
}

// somewhere: paths, some of them wrong.
func somewhere() []string {
	return []string{"/", "/a", "/b", "/ab", "/a!", "/a/a", "/a/b", "/a!/b", "/ab/c", "/a/a/a", "/a/a/b", "/a/b/a", "/a/a/a/a", "/b/a", "/b/a/b", "/a/", "a", "", "/..", deep(9)}
}

// randomCall: more of those that make.
func randomCall(r *rand.Rand, paths []string) call {
	words := []string{"folder", "folder", "folder", "file", "touch", "remove", "mount", "unmount", "exists", "stamp", "mounted"}
	return call{word: words[r.Intn(len(words))], path: paths[r.Intn(len(paths))], what: part(r.Intn(3))}
}

func TestCallsAgainstWords(t *testing.T) { // P11.1, P11.2, P11.3, P11.4
	for seed := range 300 {
		r := rand.New(rand.NewSource(int64(seed)))
		var calls []call
		for range 80 {
			calls = append(calls, randomCall(r, somewhere()[:3+seed%18]))
		}
		checkCalls(t, calls)
	}
}

func TestManyCallsAgainstWords(t *testing.T) { // P11.1, P11.2, P11.3, P11.4
	r := rand.New(rand.NewSource(5))
	x, m := New(), &model{}
	errs := map[string]int{}
	for i := range 10000 {
		c := randomCall(r, somewhere())
		got, want := run(x, c), m.run(c)
		if got != want {
			t.Fatalf("call %d, %v: answered %v, wanted %v", i, c, got, want)
		}
		errs[fmt.Sprint(c.word, " ", int(got.err))]++
		if i%500 == 0 {
			check(t, x, m, somewhere(), i)
		}
	}
	check(t, x, m, somewhere(), "at the end")
	for _, word := range changing() {
		for _, err := range []int{0, 110, 111, 112} {
			if n := errs[fmt.Sprint(word, " ", err)]; n < 20 && !(word == "touch" && err == 112) {
				t.Errorf("%s answered %d only %d times", word, err, n)
			}
		}
	}
}

// looks: of each path what it is and, of a folder, what is right below it.
func looks(x *Tree) map[string]string {
	l := map[string]string{}
	for path, folder := range x.All() {
		l[path] += fmt.Sprint("is a folder: ", folder)
		if path != "/" {
			l[folderByWords(path)] += " with " + path
		}
	}
	return l
}

func TestWhatChangesHasAnotherStamp(t *testing.T) { // P11.2, P11.4
	r := rand.New(rand.NewSource(6))
	x := New()
	stamps := map[string]map[int]string{} // by path and stamp: how it looked then
	for i := range 20000 {
		before, old := looks(x), map[string]int{}
		for _, path := range somewhere() {
			old[path] = x.Stamp(path)
		}
		c := randomCall(r, somewhere())
		reply := run(x, c)
		now := looks(x)
		for _, path := range somewhere() {
			changed := now[path] != before[path] || c.word == "touch" && c.path == path && reply.err == 0
			if want := old[path] + map[bool]int{true: 1}[changed]; x.Stamp(path) != want {
				t.Fatalf("%d, %v: %q has the stamp %d, wanted %d", i, c, path, x.Stamp(path), want)
			}
			if stamps[path] == nil {
				stamps[path] = map[int]string{}
			}
			if was, seen := stamps[path][x.Stamp(path)]; seen && was != now[path] { // no stamp comes again
				t.Fatalf("%d, %v: %q %s, and %s with one stamp", i, c, path, was, now[path])
			}
			stamps[path][x.Stamp(path)] = now[path]
		}
	}
}

func TestWhatIsThereHasItsFolder(t *testing.T) { // P11.3, P11.4
	r := rand.New(rand.NewSource(7))
	x := New()
	seen, mounts := 0, 0
	for i := range 20000 {
		run(x, randomCall(r, somewhere()))
		folders := map[string]bool{}
		for path, folder := range x.All() {
			if folders[path] = folder; path != "/" && !folders[folderByWords(path)] { // the folder came ahead
				t.Fatalf("%d: %q is there, not its folder", i, path)
			}
			if _, ok := x.Mounted(path); ok && !folder {
				t.Fatalf("%d: something is mounted on the file %q", i, path)
			} else if ok {
				mounts++
			}
			seen++
		}
		for _, path := range somewhere() {
			if _, ok := x.Mounted(path); ok && !x.Exists(path) {
				t.Fatalf("%d: something is mounted on %q, which isn't there", i, path)
			}
		}
	}
	if seen < 50000 || mounts < 10000 {
		t.Errorf("only %d, and %d mounts", seen, mounts)
	}
}

func FuzzPaths(f *testing.F) { // P11.1
	for _, path := range append(somePaths(), noPaths()...) {
		f.Add(path)
	}
	f.Fuzz(func(t *testing.T, path string) {
		x := New()
		if got, want := isOne(x, path), pathByWords(path); got != want {
			t.Errorf("%q: %v, wanted %v", path, got, want)
		}
		if got, want := x.Exists(path), path == "/"; got != want {
			t.Errorf("%q: %v, wanted %v", path, got, want)
		}
	})
}

func FuzzCalls(f *testing.F) { // P11.1, P11.2, P11.3, P11.4
	f.Add([]byte("\x00/a\n\x00/a/b\n\x04/a/b\n\x04/a\n\x05/a\n\x03/a\n"))
	f.Add([]byte("\x01/a\n\x02/a\n\x03/a\n\x00/a\n\x02/\n\x05/\n"))
	f.Fuzz(func(t *testing.T, bytes []byte) {
		var calls []call
		for row := range strings.SplitSeq(string(bytes), "\n") {
			if row == "" || len(calls) == 100 {
				break
			}
			calls = append(calls, call{word: changing()[int(row[0])%6], path: row[1:], what: row})
		}
		checkCalls(t, calls)
	})
}
