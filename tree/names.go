package tree

import (
	"math"
	"slices"

	"selvage/api"
)

// placeBytes is how much memory a name's place takes at least, without its path.
const placeBytes = 40

// list is a list of nodes, by its first one.
type list struct {
	first *api.Node
	many  int
}

// listOf is the list that nodes are; they are not none.
func listOf(l []api.Node) list { return list{&l[0], len(l)} }

// Names is the names in a pattern.
//
// Any node may be asked, also one that stands within itself. Where so many names are in it that no answer may hold them, none is told.
func Names(p api.Node) []api.Place {
	top := []api.Node{p}
	named := namedLists(top)
	left := math.MaxInt32
	may := eachName(top, named, func(_ string, path []int) bool {
		left -= placeBytes + 8*len(path)
		return left >= 0
	})
	if !may {
		return nil
	}
	var l []api.Place
	eachName(top, named, func(name string, path []int) bool {
		l = append(l, api.Place{Name: name, Path: slices.Clone(path)})
		return true
	})
	return l
}

// eachName goes through the names in a list of one node, from the left on, with their paths, as long as it is told to. It tells whether it came to
// the end: it does not, too, where lists stand within themselves.
//
// Nodes may go deeper than calls can, so it does not go down by calls. Named are the lists in which there is a name: it goes into no other one, so
// that each way down ends at one.
func eachName(top []api.Node, named map[list]struct{}, with func(name string, path []int) bool) bool {
	lists, path := [][]api.Node{top}, []int{-1} // those that it is in, and at which place of each
	for len(lists) > 0 {
		last := len(lists) - 1
		path[last]++
		if path[last] == len(lists[last]) {
			lists, path = lists[:last], path[:last]
			continue
		}
		n := lists[last][path[last]]
		if n.Kind == api.NodeName {
			if !with(n.Text, path[1:]) {
				return false
			}
			continue
		}
		if len(n.Kids) == 0 {
			continue
		}
		if _, is := named[listOf(n.Kids)]; !is {
			continue
		}
		// So many lists in one another are not all unlike.
		if len(lists) == len(named) {
			return false
		}
		lists, path = append(lists, n.Kids), append(path, -1)
	}
	return true
}

// namedLists are a list, and those of Kids in it, at any depth, in which there is a name, at any depth.
func namedLists(top []api.Node) map[list]struct{} {
	around := map[list][]list{} // of each list of Kids those in which a node has it
	var found []list            // those that have a name, or a list with one
	for todo := [][]api.Node{top}; len(todo) > 0; {
		l := todo[len(todo)-1]
		todo = todo[:len(todo)-1]
		for _, n := range l {
			switch {
			case n.Kind == api.NodeName:
				found = append(found, listOf(l))
			case len(n.Kids) > 0:
				kids := listOf(n.Kids)
				if _, is := around[kids]; !is {
					todo = append(todo, n.Kids)
				}
				around[kids] = append(around[kids], listOf(l))
			}
		}
	}
	named := map[list]struct{}{}
	for len(found) > 0 {
		l := found[len(found)-1]
		found = found[:len(found)-1]
		if _, is := named[l]; !is {
			named[l] = struct{}{}
			found = append(found, around[l]...)
		}
	}
	return named
}
