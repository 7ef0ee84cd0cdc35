package whole

import (
	"bytes"
	"go/ast"
	"go/format"
	"go/parser"
	"go/token"
	"os"
	"path/filepath"
	"slices"
	"strconv"
	"strings"
	"testing"
)

// layers are the packages that are held to the program's language, each over those ahead of it.
var layers = []string{
	"ints", "heap", "strs", "lex", "parse", "source", "show", "types", "infer", "cover", "tree", "fold",
	"core", "code", "verify", "gen", "prims", "vm", "tl2", "sched", "machine", "build", "lines",
}

// library is what may be imported beside the project's own packages.
var library = []string{
	"bytes", "cmp", "container/heap", "errors", "iter", "maps", "math", "math/bits", "slices", "sort", "strconv",
	"strings", "sync", "sync/atomic", "unicode", "unicode/utf8",
}

const longestFunction = 60 // lines

// source is a Go file of a layer.
type source struct {
	layer int
	path  string
	text  []byte
	fset  *token.FileSet
	file  *ast.File
}

// sources are the Go files of all layers, without tests.
func sources(t *testing.T) []source {
	t.Helper()
	var l []source
	for i, layer := range layers {
		paths, err := filepath.Glob(filepath.Join("..", layer, "*.go"))
		if err != nil || len(paths) == 0 {
			t.Fatalf("%s: no file: %v", layer, err)
		}
		for _, path := range paths {
			if strings.HasSuffix(path, "_test.go") {
				continue
			}
			text, err := os.ReadFile(path)
			if err != nil {
				t.Fatal(err)
			}
			fset := token.NewFileSet()
			file, err := parser.ParseFile(fset, path, text, parser.ParseComments)
			if err != nil {
				t.Fatal(err)
			}
			l = append(l, source{i, path, text, fset, file})
		}
	}
	return l
}

func TestImports(t *testing.T) {
	for _, s := range sources(t) {
		for _, spec := range s.file.Imports {
			path, err := strconv.Unquote(spec.Path.Value)
			if err != nil {
				t.Fatal(err)
			}
			own, mine := strings.CutPrefix(path, "selvage/")
			if !mine && !slices.Contains(library, path) {
				t.Errorf("%s imports %s", s.path, path)
			}
			if mine && slices.Index(layers, own) >= s.layer {
				t.Errorf("%s imports %s, which does not lie below it", s.path, path)
			}
		}
	}
}

func TestLayout(t *testing.T) {
	for _, s := range sources(t) {
		if laid, err := format.Source(s.text); err != nil || !bytes.Equal(laid, s.text) {
			t.Errorf("%s is not laid out as gofmt does: %v", s.path, err)
		}
		for _, group := range s.file.Comments {
			for _, c := range group.List {
				if strings.HasPrefix(c.Text, "//go:") || strings.HasPrefix(c.Text, "// +build") {
					t.Errorf("%s: %s", s.path, c.Text)
				}
			}
		}
		for _, d := range s.file.Decls {
			f, is := d.(*ast.FuncDecl)
			if lines := s.fset.Position(d.End()).Line - s.fset.Position(d.Pos()).Line + 1; is && lines > longestFunction {
				t.Errorf("%s: %s has %d lines", s.path, f.Name.Name, lines)
			}
		}
	}
}

// What stands at package level is written out there: no map, function, pointer, or value made by a call (but errors.New).
func TestPackageLevel(t *testing.T) {
	for _, s := range sources(t) {
		for _, d := range s.file.Decls {
			g, is := d.(*ast.GenDecl)
			if !is || g.Tok != token.VAR {
				continue
			}
			for _, spec := range g.Specs {
				v := spec.(*ast.ValueSpec)
				at := s.fset.Position(v.Pos()).String()
				if len(v.Values) != len(v.Names) {
					t.Errorf("%s: a variable without a value of its own", at)
				}
				ast.Inspect(v, func(n ast.Node) bool {
					if may(n) {
						return true
					}
					t.Errorf("%s: %T may not stand at package level", at, n)
					return false
				})
			}
		}
	}
}

// may tells whether a part of a variable's declaration may stand at package level.
func may(n ast.Node) bool {
	switch x := n.(type) {
	case *ast.MapType, *ast.FuncType, *ast.ChanType, *ast.FuncLit, *ast.StarExpr:
		return false
	case *ast.UnaryExpr:
		return x.Op != token.AND
	case *ast.CallExpr:
		f, is := x.Fun.(*ast.SelectorExpr)
		if !is {
			return false
		}
		of, is := f.X.(*ast.Ident)
		return is && of.Name == "errors" && f.Sel.Name == "New"
	}
	return true
}
