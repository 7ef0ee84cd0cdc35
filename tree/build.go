package tree

import (
	"cmp"
	"slices"

	"selvage/api"
)

// builder builds a tree.
type builder struct {
	ask  asker
	left int // how many trees there may be more; below 0, if there were too many
}

// asker tells what a column asks: of each Case a pattern with its head, and whether there is a Rest.
type asker func(column []api.Node) ([]api.Node, bool)

// match is what is left of some rows: of each column its path, and the rows, which have a pattern for each column.
type match struct {
	paths [][]int
	rows  []row
}

// row is what is left of a row: its place among all of them, and its patterns.
type row struct {
	place int
	pats  []api.Node
}

// begin is a match of rows of one column, at the empty path.
func begin(rows []api.Node) match {
	m := match{paths: [][]int{nil}}
	for i, n := range rows {
		m.rows = append(m.rows, row{i, []api.Node{n}})
	}
	return m
}

// tree is the tree of what is left of some rows.
func (b *builder) tree(m match) api.Tree {
	if b.left--; b.left < 0 {
		return api.Tree{}
	}
	if len(m.rows) == 0 {
		return api.Tree{Row: none}
	}
	first := m.rows[0]
	at := slices.IndexFunc(first.pats, hasHead)
	if at < 0 {
		return api.Tree{Row: first.place}
	}
	heads, rest := b.ask(m.column(at))
	t := api.Tree{Path: slices.Clone(m.paths[at])}
	for _, head := range heads {
		t.Cases = append(t.Cases, api.Case{Con: head.Text, Number: head.Number, Tree: b.tree(m.behind(at, head))})
	}
	if rest {
		t.Rest = []api.Tree{b.tree(m.behind(at, api.Node{Kind: api.NodeAny}))}
	}
	return t
}

// asks is the asker for some constructors.
func asks(cons []api.Con) asker {
	named := make(map[string]api.Con, len(cons))
	for _, c := range cons {
		named[c.Name] = c
	}
	return func(column []api.Node) ([]api.Node, bool) {
		var heads []api.Node
		for _, n := range column {
			met := func(head api.Node) bool { return meets(head, n) }
			if hasHead(n) && !slices.ContainsFunc(heads, met) {
				heads = append(heads, n)
			}
		}
		if heads[0].Kind == api.NodeInt {
			return heads, true
		}
		slices.SortFunc(heads, func(a, b api.Node) int { return cmp.Compare(named[a.Text].Tag, named[b.Text].Tag) })
		return heads, len(heads) < named[heads[0].Text].Many
	}
}

// column is each row's pattern in a column.
func (m match) column(at int) []api.Node {
	var l []api.Node
	for _, r := range m.rows {
		l = append(l, r.pats[at])
	}
	return l
}

// behind is what is left behind a question, by what it was told: the rows that mean something with a head in a column, with what stands behind it
// in the column's place. Of the Rest the head is that of NodeAny, which no pattern has: only those are left that are any there.
func (m match) behind(at int, head api.Node) match {
	var paths [][]int
	for i := range head.Kids {
		paths = append(paths, append(slices.Clone(m.paths[at]), i))
	}
	left := match{paths: inPlace(m.paths, at, paths)}
	for _, r := range m.rows {
		if !meets(r.pats[at], head) {
			continue
		}
		parts := r.pats[at].Kids
		if !hasHead(r.pats[at]) {
			parts = slices.Repeat([]api.Node{{Kind: api.NodeAny}}, len(head.Kids))
		}
		left.rows = append(left.rows, row{r.place, inPlace(r.pats, at, parts)})
	}
	return left
}

// inPlace is a list with others in the place of one of its items.
func inPlace[T any](l []T, at int, others []T) []T {
	return slices.Concat(l[:at], others, l[at+1:])
}

// meets tells whether a pattern means something with another one's head.
func meets(n, head api.Node) bool {
	return !hasHead(n) || n.Kind == head.Kind && n.Text == head.Text && n.Number == head.Number
}

// hasHead tells whether a pattern is a number or a constructor's, and not of any value.
func hasHead(n api.Node) bool { return n.Kind == api.NodeInt || n.Kind == api.NodeCon }
