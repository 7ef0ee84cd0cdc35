// Package source tells which nodes a source has. It stands on parse; infer and core ask it.
package source

import (
	"slices"
	"strings"

	"selvage/api"
	"selvage/parse"
)

// How loosely a node binds, the loosest ones last. Where a place asks for one of these, those ahead of it may stand there, too.
const (
	nothing = iota
	atom
	call
	app // with something behind a key, a constructor, or a type's name
	prod
	sum
	cmp
	open // let, fun, if
	seq
)

// place is where a node stands.
type place struct {
	loosest int    // that may stand there without brackets
	exps    int    // likewise where an exp is asked for: a seq's sign would end a declaration
	deep    int    // how many exps, pats and tyapps are in one another there
	ahead   string // the words that stand round it
	behind  string
}

// Has tells whether a source has a node, whatever the places in it.
//
// The node is written by as few bytes as a source can have it in, for a source has not many. Whatever is wrong with it, it is never read as it then.
func Has(n api.Node) bool {
	if room(n, 3*api.MaxSource) < 0 {
		return false
	}
	words := place{loosest: seq, exps: seq}.words(n)
	read, _, e := parse.Program(laid(words...))
	return e == api.OK && parse.Same(read, n)
}

// room is how much of some room is left by what a node has in it; below 0, if it is too little. No source's node takes more than three times what
// a source has: its texts, a call for each other node, and these, which have a word each.
func room(n api.Node, left int) int {
	left -= 1 + len(n.Text)
	for _, name := range n.Names {
		left -= 1 + len(name)
	}
	for i := 0; i < len(n.Kids) && left >= 0; i++ {
		left = room(n.Kids[i], left)
	}
	return left
}

// words are a node's; none, if it has none at such a place.
func (p place) words(n api.Node) []string {
	loose, form := formed(n)
	// What stands behind a constructor is its own, so none is called without brackets.
	if loose > p.loosest || p.loosest == call && n.Kind == api.NodeCon {
		return p.bracketed(n, form)
	}
	bare := p.bare(n, form)
	if p.loosest == open {
		// Within a declaration brackets round an exp may be fewer than those round each seq in it.
		if b := p.bracketed(n, form); b != nil && p.bytes(b) < p.bytes(bare) {
			return b
		}
	}
	return bare
}

// bytes is how many bytes some words take at a place.
func (p place) bytes(words []string) int {
	return len(laid(slices.Concat([]string{p.ahead}, words, []string{p.behind})...))
}

// bracketed are a node's words with brackets round them.
func (p place) bracketed(n api.Node, form string) []string {
	words := place{exps: seq, deep: p.deep + 1}.bare(n, form)
	if words == nil {
		return nil
	}
	return slices.Concat([]string{"("}, words, []string{")"})
}

// bare are a node's words as its form has them.
func (p place) bare(n api.Node, form string) []string {
	if p.deep > api.MaxDeep {
		return nil
	}
	words, kids := []string{p.ahead}, n.Kids
	items := strings.Fields(form)
	for i, item := range items {
		at, isPart := p.part(item)
		if !isPart {
			words = append(words, written(n, item)...)
			continue
		}
		if len(kids) == 0 {
			return nil
		}
		at.ahead, at.behind = words[len(words)-1], p.behind
		if i+1 < len(items) {
			at.behind = items[i+1]
		}
		part := at.words(kids[0])
		if part == nil {
			return nil
		}
		words, kids = append(words, part...), kids[1:]
	}
	return words[1:]
}

// part is where a part stands for which a form has an item; false, if the item is no part's.
func (p place) part(item string) (place, bool) {
	at := place{exps: p.exps, deep: p.deep}
	switch item {
	case "CALLED":
		at.loosest = call
	case "ATOM":
		at.loosest = atom
	case "APP":
		at.loosest = app
	case "PROD":
		at.loosest = prod
	case "SUM":
		at.loosest = sum
	case "CMP":
		at.loosest = cmp
	case "DECL":
		at.loosest, at.exps = seq, open
	case "FUN": // round which no brackets may stand
		at.loosest, at.deep = seq, p.deep+1
	case "EXP":
		at.loosest, at.deep = p.exps, p.deep+1
	case "ANY":
		at.loosest, at.exps, at.deep = seq, seq, p.deep+1
	default:
		return place{}, false
	}
	return at, true
}
