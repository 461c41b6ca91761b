package tree

import (
	"fmt"
	"regexp"
	"slices"
	"strings"
	"testing"

	"reveille/api"
)

// call: of a tree: its word, its path, what is mounted.
type call struct{ word, path, what string }

// reply: what a call answered; what it has no result for is zero.
type reply struct {
	err  api.Errno
	n    int
	text string
	yes  bool
}

func run(x *Tree, c call) reply {
	var r reply
	switch c.word {
	case "folder":
		r.err = x.Make(c.path, true)
	case "file":
		r.err = x.Make(c.path, false)
	case "touch":
		r.err = x.Touch(c.path)
	case "remove":
		r.err = x.Remove(c.path)
	case "mount":
		r.err = x.Mount(c.what, c.path)
	case "unmount":
		r.err = x.Unmount(c.path)
	case "exists":
		r.yes = x.Exists(c.path)
	case "stamp":
		r.n = x.Stamp(c.path)
	case "mounted":
		r.text, r.yes = x.Mounted(c.path)
	}
	return r
}

// readCalls: calls as text: `+/a` makes the folder /a, `=/a` the file, `!/a` touches it, `-/a` removes it, `>/a` mounts nothing's name on it and `>/a:x` x, `</a` unmounts it.
func readCalls(text string) []call {
	var calls []call
	words := map[byte]string{'+': "folder", '=': "file", '!': "touch", '-': "remove", '>': "mount", '<': "unmount"}
	for _, s := range strings.Fields(text) {
		path, what, _ := strings.Cut(s[1:], ":")
		calls = append(calls, call{word: words[s[0]], path: path, what: what})
	}
	return calls
}

// build: a tree after calls that are all taken.
func build(t *testing.T, text string) *Tree {
	t.Helper()
	x := New()
	for _, c := range readCalls(text) {
		if r := run(x, c); r.err != 0 {
			t.Fatalf("%s: %v answered %d", text, c, r.err)
		}
	}
	return x
}

// say: all that is there as text: `+/:2 =/a:1 +/b:1<x`: folders behind `+` and files behind `=`, with their stamps and what is mounted on them.
func say(x *Tree) string {
	var words []string
	for path, folder := range x.All() {
		kind := "="
		if folder {
			kind = "+"
		}
		word := fmt.Sprint(kind, path, ":", x.Stamp(path))
		if what, ok := x.Mounted(path); ok {
			word += "<" + what
		}
		words = append(words, word)
	}
	return strings.Join(words, " ")
}

// model: a tree by the document's words: all that was ever made, touched or removed, and what is mounted now.
type model struct {
	acts   []call
	mounts []call
}

// wordsPath: the document's words on paths; each byte stands for the rune of its number, so that bytes are counted.
var wordsPath = regexp.MustCompile(`^(/|(/[^/\x00]{1,40}){1,8})$`)

func pathByWords(path string) bool {
	runes := []rune{}
	for i := range len(path) {
		runes = append(runes, rune(path[i]))
	}
	parts := strings.Split(path, "/")
	return wordsPath.MatchString(string(runes)) && !slices.Contains(parts, ".") && !slices.Contains(parts, "..")
}

// folderByWords: a path without its last part.
func folderByWords(path string) string {
	parts := strings.Split(path, "/")
	if len(parts) == 2 {
		return "/"
	}
	return strings.Join(parts[:len(parts)-1], "/")
}

// at: what is at a path: "folder", "file", or nothing: what was made there last, unless it was removed behind that.
func (m *model) at(path string) string {
	if path == "/" {
		return "folder"
	}
	for _, a := range slices.Backward(m.acts) {
		if a.path == path && a.word == "remove" {
			return ""
		}
		if a.path == path && a.word != "touch" {
			return a.word
		}
	}
	return ""
}

// there: all paths of what is there, rising.
func (m *model) there() []string {
	paths := []string{"/"}
	for _, a := range m.acts {
		if m.at(a.path) != "" {
			paths = append(paths, a.path)
		}
	}
	slices.Sort(paths)
	return slices.Compact(paths)
}

func (m *model) stamp(path string) int {
	n := 0
	for _, a := range m.acts {
		if a.path == path {
			n++
		}
		if a.path != "/" && a.word != "touch" && folderByWords(a.path) == path {
			n++
		}
	}
	return n
}

func (m *model) mounted(path string) int {
	return slices.IndexFunc(m.mounts, func(c call) bool { return c.path == path })
}

// below: whether a path is somewhere below a folder.
func below(path, folder string) bool {
	return path != "/" && (folder == "/" || strings.HasPrefix(path, folder+"/"))
}

func (m *model) make(c call) api.Errno {
	if m.at(c.path) != "" {
		return 112
	}
	if m.at(folderByWords(c.path)) != "folder" {
		return 110
	}
	m.acts = append(m.acts, c)
	return 0
}

func (m *model) remove(c call) api.Errno {
	if m.at(c.path) == "" {
		return 110
	}
	empty := !slices.ContainsFunc(m.there(), func(path string) bool { return path != "/" && folderByWords(path) == c.path })
	if c.path == "/" || !empty || m.mounted(c.path) >= 0 {
		return 112
	}
	m.acts = append(m.acts, c)
	return 0
}

func (m *model) unmount(c call) api.Errno {
	i := m.mounted(c.path)
	if i < 0 {
		return 110
	}
	if slices.ContainsFunc(m.mounts, func(other call) bool { return below(other.path, c.path) }) {
		return 112
	}
	m.mounts = slices.Delete(m.mounts, i, i+1)
	return 0
}

// change: what a call that may change the tree answers; its path is one.
func (m *model) change(c call) api.Errno {
	switch c.word {
	case "folder", "file":
		return m.make(c)
	case "touch":
		if m.at(c.path) == "" {
			return 110
		}
		m.acts = append(m.acts, c)
		return 0
	case "remove":
		return m.remove(c)
	case "mount":
		if m.at(c.path) != "folder" {
			return 110
		}
		if m.mounted(c.path) >= 0 {
			return 112
		}
		m.mounts = append(m.mounts, c)
		return 0
	}
	return m.unmount(c)
}

func (m *model) run(c call) reply {
	switch c.word {
	case "exists":
		return reply{yes: m.at(c.path) != ""}
	case "stamp":
		return reply{n: m.stamp(c.path)}
	case "mounted":
		if i := m.mounted(c.path); i >= 0 {
			return reply{text: m.mounts[i].what, yes: true}
		}
		return reply{}
	}
	if !pathByWords(c.path) {
		return reply{err: 111}
	}
	return reply{err: m.change(c)}
}

// check: that a tree holds what its model does; the paths are those that are asked for, beside what is there.
func check(t *testing.T, x *Tree, m *model, paths []string, said any) {
	t.Helper()
	there, i := m.there(), 0
	for path, folder := range x.All() {
		if i >= len(there) || path != there[i] || folder != (m.at(path) == "folder") {
			t.Fatalf("%v: %q, %v came as number %d, wanted %q", said, path, folder, i, there)
		}
		i++
	}
	if i != len(there) {
		t.Fatalf("%v: %d came, wanted %q", said, i, there)
	}
	for _, path := range slices.Concat(there, paths) {
		for _, word := range []string{"exists", "stamp", "mounted"} {
			c := call{word: word, path: path}
			if got, want := run(x, c), m.run(c); got != want {
				t.Fatalf("%v: then %v answered %v, wanted %v", said, c, got, want)
			}
		}
	}
}

// checkCalls: that a tree answers calls as its model does.
func checkCalls(t *testing.T, calls []call) {
	t.Helper()
	x, m := New(), &model{}
	var paths []string
	for i, c := range calls {
		before := say(x)
		got, want := run(x, c), m.run(c)
		if got != want {
			t.Fatalf("%v: answered %v, wanted %v", calls[:i+1], got, want)
		}
		if got.err != 0 && say(x) != before {
			t.Fatalf("%v: it erred and changed the tree", calls[:i+1])
		}
		paths = append(paths, c.path)
	}
	check(t, x, m, paths, calls)
}
