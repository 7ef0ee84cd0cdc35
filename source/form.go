package source

import (
	"slices"
	"strconv"
	"strings"

	"selvage/api"
)

// formed tells how loosely a node binds, and its form: the words that it is written by, and items in capital letters for what is the node's own, and
// for its parts.
func formed(n api.Node) (int, string) {
	many := len(n.Kids)
	switch n.Kind {
	case api.NodeProg:
		return seq, strings.Repeat("DECL ; ", max(0, many-1)) + "do ANY"
	case api.NodeType:
		return seq, "type TEXT NAMES = " + strings.Join(slices.Repeat([]string{"DECL"}, many), " | ")
	case api.NodeDef:
		if many > 0 {
			return seq, "TEXT of " + strings.Join(slices.Repeat([]string{"ANY"}, many), " , ")
		}
	case api.NodeCon, api.NodeTy:
		if many > 0 {
			return app, "TEXT" + strings.Repeat(" ATOM", many)
		}
	case api.NodeMatch:
		return atom, "match ANY with" + strings.Repeat(" | ANY -> ANY", many/2) + " end"
	case api.NodeOp:
		return formedOp(n.Text)
	default:
		return formedAs(n.Kind)
	}
	return atom, "TEXT"
}

// formedOp is for an operation, by its sign.
func formedOp(sign string) (int, string) {
	switch sign {
	case "*", "/", "%":
		return prod, "PROD TEXT APP"
	case "+", "-", "^":
		return sum, "SUM TEXT PROD"
	}
	return cmp, "SUM TEXT SUM"
}

// formedAs is for nodes of a kind that are all of one form.
func formedAs(kind int) (int, string) {
	switch kind {
	case api.NodeVal:
		return seq, "let TEXT = EXP"
	case api.NodeValRec:
		return seq, "let rec TEXT = FUN"
	case api.NodeInt:
		return atom, "NUMBER"
	case api.NodeText:
		return atom, "STRING"
	case api.NodeUnit:
		return atom, "( )"
	case api.NodeName:
		return atom, "TEXT"
	case api.NodeAny:
		return atom, "_"
	case api.NodeRetry:
		return atom, "retry"
	case api.NodeTry:
		return atom, "try ANY with TEXT -> ANY end"
	case api.NodeCall:
		return call, "CALLED ATOM"
	case api.NodeLet:
		return open, "let TEXT = EXP in EXP"
	case api.NodeRec:
		return open, "let rec TEXT = FUN in EXP"
	case api.NodeFun:
		return open, "fun TEXT -> EXP"
	case api.NodeIf:
		return open, "if EXP then EXP else EXP"
	case api.NodeSeq:
		return seq, "CMP ; EXP"
	}
	return formedByKey(kind)
}

// formedByKey is for nodes of a key and atoms.
func formedByKey(kind int) (int, string) {
	switch kind {
	case api.NodePrint:
		return app, "print ATOM"
	case api.NodeRaise:
		return app, "raise ATOM"
	case api.NodeSpawn:
		return app, "spawn ATOM"
	case api.NodeAtom:
		return app, "atomically ATOM"
	case api.NodeElse:
		return app, "orelse ATOM ATOM"
	case api.NodeTvar:
		return app, "tvar ATOM"
	case api.NodeRead:
		return app, "read ATOM"
	case api.NodeWrite:
		return app, "write ATOM ATOM"
	}
	return nothing, ""
}

// written is what stands in a source for an item that is no part's.
func written(n api.Node, item string) []string {
	switch item {
	case "TEXT":
		return []string{n.Text}
	case "NAMES":
		return n.Names
	case "NUMBER":
		return []string{strconv.Itoa(n.Number)}
	case "STRING":
		return []string{quoted(n.Text)}
	}
	return []string{item}
}

// quoted is a string as a source has it.
func quoted(s string) string {
	text := []byte{'"'}
	for i := range len(s) {
		switch b := s[i]; {
		case b == '"' || b == '\\':
			text = append(text, '\\', b)
		case b == '\n':
			text = append(text, '\\', 'n')
		case b < ' ' || b > '~':
			text = append(text, '\\', 'x')
			text = append(text, strconv.FormatInt(1<<8+int64(b), 16)[1:]...)
		default:
			text = append(text, b)
		}
	}
	return string(append(text, '"'))
}

// laid is words as a text: a blank stands between two that would run together.
func laid(words ...string) string {
	var text strings.Builder
	ahead := ""
	for _, word := range words {
		if runs(ahead, word) {
			text.WriteByte(' ')
		}
		text.WriteString(word)
		ahead = word
	}
	return text.String()
}

// runs tells whether two words run together: names and keys take in what may stand in a name, digits take in digits.
func runs(a, b string) bool {
	if a == "" || b == "" {
		return false
	}
	if isDigit(b[0]) {
		return isDigit(a[0]) || isLetter(a[0])
	}
	return isLetter(a[0]) && (isLetter(b[0]) || b[0] == '_')
}

func isDigit(b byte) bool { return b >= '0' && b <= '9' }

func isLetter(b byte) bool { return b >= 'a' && b <= 'z' || b >= 'A' && b <= 'Z' }
