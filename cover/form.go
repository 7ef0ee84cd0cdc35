package cover

import "selvage/api"

// most is how many patterns a row has in it at most, itself among them.
const most = 30

// finder finds a constructor by its name.
type finder func(name string) (api.Con, bool)

// finds is one for some constructors.
func finds(cons []api.Con) finder {
	named := make(map[string]api.Con, len(cons))
	for _, c := range cons {
		named[c.Name] = c
	}
	return func(name string) (api.Con, bool) {
		c, is := named[name]
		return c, is
	}
}

// sound tells whether constructors are.
func sound(cons []api.Con) bool {
	type tag struct {
		of  string
		tag int
	}
	names, tags, many := map[string]struct{}{}, map[tag]struct{}{}, map[string]int{}
	for _, c := range cons {
		names[c.Name] = struct{}{}
		tags[tag{c.Of, c.Tag}] = struct{}{}
		many[c.Of]++
	}
	for _, c := range cons {
		if c.Many != many[c.Of] || c.Tag < 0 || c.Tag >= c.Many || c.Arity < 0 || c.Arity > api.MaxArity {
			return false
		}
	}
	// So many tags of a type that none is twice are all of them.
	return len(names) == len(cons) && len(tags) == len(cons)
}

// may tells whether rows may be handed in.
func (find finder) may(rows []api.Node) bool {
	if len(rows) > api.MaxRows {
		return false
	}
	for i, r := range rows {
		if find.room(r, most) < 0 {
			return false
		}
		for _, a := range rows[:i] {
			if !find.together(a, r) {
				return false
			}
		}
	}
	return true
}

// room is for how many more patterns there is room behind one; below 0, if there is none for it, or it is no pattern.
func (find finder) room(n api.Node, left int) int {
	if !find.formed(n) {
		return -1
	}
	left--
	for i := 0; i < len(n.Kids) && left >= 0; i++ {
		left = find.room(n.Kids[i], left)
	}
	return left
}

// formed tells whether a node is a pattern, but for its Kids.
func (find finder) formed(n api.Node) bool {
	arity := 0
	switch n.Kind {
	case api.NodeCon:
		c, is := find(n.Text)
		if !is {
			return false
		}
		arity = c.Arity
	case api.NodeAny, api.NodeInt:
		if n.Text != "" {
			return false
		}
	case api.NodeName:
	default:
		return false
	}
	number := n.Number == 0 || n.Kind == api.NodeInt && n.Number > 0
	return number && len(n.Names) == 0 && len(n.Kids) == arity
}

// together tells whether two patterns that stand at one place go together.
func (find finder) together(a, b api.Node) bool {
	switch {
	case isAny(a) || isAny(b):
		return true
	case a.Kind != b.Kind:
		return false
	case a.Kind == api.NodeInt:
		return true
	}
	c, _ := find(a.Text)
	d, _ := find(b.Text)
	if c.Of != d.Of {
		return false
	}
	// What stands behind unlike constructors stands at unlike places.
	for i := 0; i < len(a.Kids) && c.Name == d.Name; i++ {
		if !find.together(a.Kids[i], b.Kids[i]) {
			return false
		}
	}
	return true
}
