package parse

import (
	"slices"

	"selvage/api"
)

// sometimes is of how many lists one is kept.
const sometimes = 64

// lists are two lists of nodes that are as long, by their first ones.
type lists struct {
	a, b *api.Node
	many int
}

// Same tells whether two nodes are the same, but for their places.
//
// Nodes may go deeper than calls can, so lists that are left are not gone through by calls. And they may share Kids, or stand
// within themselves: lists that were gone through are kept, and not gone through again. To keep some of them is enough for an end.
func Same(a, b api.Node) bool {
	left := [][2][]api.Node{{{a}, {b}}}
	kept := map[lists]struct{}{}
	for gone := 0; len(left) > 0; {
		next := left[len(left)-1]
		left = left[:len(left)-1]
		l := lists{&next[0][0], &next[1][0], len(next[0])}
		if _, is := kept[l]; is || l.a == l.b {
			continue
		}
		if gone++; gone%sometimes == 0 {
			kept[l] = struct{}{}
		}
		for i, x := range next[0] {
			y := next[1][i]
			if !alike(x, y) {
				return false
			}
			if len(x.Kids) > 0 {
				left = append(left, [2][]api.Node{x.Kids, y.Kids})
			}
		}
	}
	return true
}

// alike tells whether two nodes are the same, as far as it is to be seen without their Kids.
func alike(a, b api.Node) bool {
	return a.Kind == b.Kind && a.Text == b.Text && a.Number == b.Number && slices.Equal(a.Names, b.Names) && len(a.Kids) == len(b.Kids)
}
