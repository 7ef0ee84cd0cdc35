package gen

import "selvage/api"

// mostTrees is how many trees there may be in one another.
const mostTrees = 60

// matching goes through the tree of a match.
type matching struct {
	*walk
	local int           // in which the match's value stands
	jumps map[int][]int // the places of the jumps to each row, by its number
}

func (w *walk) match(c api.Core, s spot) {
	w.exp(c.Kids[0], s.within())
	w.put(api.OpSet, c.Number, 0)
	m := matching{w, c.Number, map[int][]int{}}
	m.tree(c.Tree, 1)
	rows := c.Kids[1:]
	var ends []int
	for row, body := range rows {
		w.lands(m.jumps[row]...)
		if row < len(c.Binds) {
			m.binds(c.Binds[row])
		}
		w.exp(body, s)
		if !s.last && row < len(rows)-1 {
			ends = append(ends, w.put(api.OpJump, nowhere, 0))
		}
	}
	w.lands(ends...)
}

// binds puts what is bound in a row into its locals.
func (m matching) binds(l []api.Bind) {
	for _, b := range l {
		m.value(b.Path)
		m.put(api.OpSet, b.Local, 0)
	}
}

// value puts what stands at a path.
func (m matching) value(path []int) {
	m.put(api.OpLocal, m.local, 0)
	for _, part := range path {
		m.put(api.OpField, part, 0)
	}
}

// tree puts the questions of a tree, which is in so many others, itself among them, and what they lead to.
func (m matching) tree(t api.Tree, deep int) {
	if deep > mostTrees {
		return
	}
	if len(t.Cases) == 0 {
		m.jumps[t.Row] = append(m.jumps[t.Row], m.put(api.OpJump, nowhere, 0))
		return
	}
	asked, other := parted(t)
	var places []int
	for _, is := range asked {
		m.value(t.Path)
		places = append(places, m.ask(is))
	}
	m.tree(other, deep+1)
	for i, is := range asked {
		m.lands(places[i])
		m.tree(is.Tree, deep+1)
	}
}

// parted tells the cases of a tree that are asked for, and the tree of what is none of these: where there is no Rest, that of the last case.
func parted(t api.Tree) ([]api.Case, api.Tree) {
	if len(t.Rest) > 0 {
		return t.Cases, t.Rest[0]
	}
	last := len(t.Cases) - 1
	return t.Cases[:last], t.Cases[last].Tree
}

// mostCase is the greatest number that may be asked for.
const mostCase = 1<<16 - 1

// ask asks for a case, and tells the place.
func (m matching) ask(is api.Case) int {
	number := is.Number
	if is.Con != "" {
		tag, known := m.tags[is.Con]
		if number = tag; !known {
			number = nowhere
		}
	}
	limit(number, mostCase)
	return m.put(api.OpCase, number, nowhere)
}
