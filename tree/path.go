package tree

import (
	"iter"
	"strings"

	"reveille/api"
)

const (
	root    = "/"
	maxPart = 40 // bytes of a path's part
)

// isPath: whether it is `/`, or `/` and some parts with `/` between.
func isPath(path string) bool {
	if path == root {
		return true
	}
	rest, begins := strings.CutPrefix(path, root)
	if !begins {
		return false
	}
	count := 0
	for part := range strings.SplitSeq(rest, root) {
		count++
		if count > api.MaxDepth || !isPart(part) {
			return false
		}
	}
	return true
}

// isPart: of a path; there is no `/` in it.
func isPart(part string) bool {
	if part == "" || part == "." || part == ".." {
		return false
	}
	return len(part) <= maxPart && strings.IndexByte(part, 0) < 0
}

// folderOf: a path without its last part.
func folderOf(path string) string {
	return path[:max(strings.LastIndexByte(path, '/'), len(root))]
}

// above: the folders that a path is in, the nearest one first, `/` last; none of `/`.
func above(path string) iter.Seq[string] {
	return func(yield func(string) bool) {
		for at := path; at != root; {
			at = folderOf(at)
			if !yield(at) {
				return
			}
		}
	}
}
