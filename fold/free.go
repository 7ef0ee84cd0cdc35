package fold

import (
	"slices"
	"strings"

	"selvage/api"
)

// Free is the names free in an exp.
//
// Any node may be handed in, also one that stands within itself: of one that is greater than a source's none is told.
func Free(n api.Node) []string {
	if room(n, most) < 0 {
		return nil
	}
	return free(n, nil, nil)
}

// free is some names that were found, and behind them those that are free in a node, where some names are bound.
func free(n api.Node, bound, found []string) []string {
	if n.Kind == api.NodeName {
		if !slices.Contains(bound, n.Text) && !slices.Contains(found, n.Text) {
			found = append(found, strings.Clone(n.Text))
		}
		return found
	}
	for i, k := range n.Kids {
		if !isPattern(n, i) {
			// What is bound here is put into memory of its own: around it all stays as it is.
			within := append(bound[:len(bound):len(bound)], binds(n, i)...)
			found = free(k, within, found)
		}
	}
	return found
}

// isFree tells whether a name is free in a node.
func isFree(name string, n api.Node) bool {
	if n.Kind == api.NodeName {
		return n.Text == name
	}
	for i, k := range n.Kids {
		if !isPattern(n, i) && !slices.Contains(binds(n, i), name) && isFree(name, k) {
			return true
		}
	}
	return false
}

// binds are the names that a node binds in one of its Kids.
func binds(n api.Node, kid int) []string {
	switch {
	case n.Kind == api.NodeFun, n.Kind == api.NodeRec:
		return []string{n.Text}
	case kid == 0:
		return nil
	case n.Kind == api.NodeLet, n.Kind == api.NodeTry:
		return []string{n.Text}
	case n.Kind == api.NodeMatch:
		return named(n.Kids[kid-1], nil)
	}
	return nil
}

// named is some names, and behind them those of a pattern.
func named(pattern api.Node, names []string) []string {
	if pattern.Kind == api.NodeName {
		return append(names, pattern.Text)
	}
	for _, k := range pattern.Kids {
		names = named(k, names)
	}
	return names
}

// isPattern tells whether one of a node's Kids is a row's pattern.
func isPattern(n api.Node, kid int) bool { return n.Kind == api.NodeMatch && kid%2 == 1 }
