package tests

import (
	"bytes"
	"go/ast"
	"go/format"
	"go/parser"
	"go/token"
	"os"
	"path/filepath"
	"slices"
	"strconv"
	"testing"
)

// longest is the number of lines that a function may have.
const longest = 60

// TestLanguage checks the rules of the language that the text of the program shows.
func TestLanguage(t *testing.T) {
	allowed := []string{"bytes", "cmp", "container/heap", "errors", "iter", "maps", "math", "math/bits", "slices", "sort", "strconv", "strings", "sync", "sync/atomic", "unicode", "unicode/utf8"}
	names, err := filepath.Glob("../impl/*.go")
	if err != nil || len(names) == 0 {
		t.Fatalf("no files: %v", err)
	}
	for _, name := range names {
		text, err := os.ReadFile(name)
		if err != nil {
			t.Fatal(err)
		}
		if formatted, err := format.Source(text); err != nil || !bytes.Equal(formatted, text) {
			t.Errorf("%s does not have gofmt's layout", name)
		}
		set := token.NewFileSet()
		file, err := parser.ParseFile(set, name, text, 0)
		if err != nil {
			t.Fatal(err)
		}
		for _, i := range file.Imports {
			if path, _ := strconv.Unquote(i.Path.Value); !slices.Contains(allowed, path) {
				t.Errorf("%s imports %s", name, path)
			}
		}
		for _, d := range file.Decls {
			f, ok := d.(*ast.FuncDecl)
			if ok && set.Position(f.End()).Line-set.Position(f.Pos()).Line >= longest {
				t.Errorf("%s: %s is too long", name, f.Name.Name)
			}
		}
	}
}
