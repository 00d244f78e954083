// Package language: a test of the program's own files, as far as the syntax
// shows what they use. It guards P2: a program without package-level state,
// clock and random source has nothing but its arguments to go by.
package language

import (
	"bytes"
	"go/ast"
	"go/format"
	"go/parser"
	"go/token"
	"io/fs"
	"os"
	"path/filepath"
	"strings"
	"testing"
)

const longestFunction = 45

func TestFilesKeepToTheLanguage(t *testing.T) {
	files := programFiles(t)
	if len(files) < 7 {
		t.Fatalf("only %d files found: %v", len(files), files)
	}
	for _, path := range files {
		source, err := os.ReadFile(path)
		if err != nil {
			t.Fatal(err)
		}
		for _, fault := range faults(t, path, source) {
			t.Error(fault)
		}
	}
}

// The test would be worth nothing if it found no fault in what is faulty.
func TestFaultsAreFound(t *testing.T) {
	for _, c := range []string{
		`import "time"`, `import . "os"`, `var n int`, `var n = [...]int{1}[0]`, `var list = []int{1}`, `var m map[int]int`,
		`func f() { go f() }`, `func f() { defer f() }`, `func f() { panic(1) }`, `func f() { recover() }`, `func f(l []int) int { return cap(l) }`,
		`func f() { _ = map[int]int{} }`, `func f() { _ = func() {} }`, `func f(g func()) {}`, `type i interface{}`, `func f(x any) {}`, `func f() error { return nil }`, `func f[T int](x T) {}`,
		`func f() { _ = 1.5 }`, `func f(x float64) {}`, `func f(c chan int) { c <- 1 }`, `func f() { select {} }`, `func f(l []int) { l[0], l[1] = l[1], l[0] }`, "//go:noinline\nfunc f() {}",
		`func f() {` + strings.Repeat("\n\tf()", 50) + "\n}",
	} {
		if len(faults(t, "faulty.go", laidOut(t, c))) == 0 {
			t.Errorf("no fault found in %.60q", c)
		}
	}
	if len(faults(t, "faulty.go", []byte("package faulty\n\nfunc f( ) {}\n"))) == 0 {
		t.Error("no fault found in the layout")
	}
	for _, c := range []string{`var table = [2]int{1, 2}`, `import "strconv"`, `import "winnow/api"`, `func f(a, b int) (int, int) { a, b = b, a; return a, b }`} {
		if found := faults(t, "good.go", laidOut(t, c)); len(found) > 0 {
			t.Errorf("faults found in %q: %v", c, found)
		}
	}
}

func laidOut(t *testing.T, code string) []byte {
	source, err := format.Source([]byte("package p\n\n" + code + "\n"))
	if err != nil {
		t.Fatal(err)
	}
	return source
}

func programFiles(t *testing.T) []string {
	var files []string
	err := filepath.WalkDir("..", func(path string, entry fs.DirEntry, err error) error {
		if err != nil {
			return err
		}
		if entry.IsDir() && (entry.Name() == ".git" || entry.Name() == "sharedtests") {
			return filepath.SkipDir
		}
		if strings.HasSuffix(path, ".go") && !strings.HasSuffix(path, "_test.go") {
			files = append(files, path)
		}
		return nil
	})
	if err != nil {
		t.Fatal(err)
	}
	return files
}

func faults(t *testing.T, path string, source []byte) []string {
	set := token.NewFileSet()
	file, err := parser.ParseFile(set, path, source, parser.ParseComments)
	if err != nil {
		t.Fatal(err)
	}
	var found []string
	tell := func(node ast.Node, what string) {
		found = append(found, set.Position(node.Pos()).String()+": "+what)
	}
	if laid, err := format.Source(source); err != nil || !bytes.Equal(laid, source) {
		tell(file, "not in gofmt's layout")
	}
	for _, group := range file.Comments {
		for _, comment := range group.List {
			if strings.HasPrefix(comment.Text, "//go:") {
				tell(comment, "a //go: line")
			}
		}
	}
	for _, declaration := range file.Decls {
		switch d := declaration.(type) {
		case *ast.GenDecl:
			for _, spec := range d.Specs {
				if v, ok := spec.(*ast.ValueSpec); ok && d.Tok == token.VAR && !isTable(v) {
					tell(v, "a package-level variable that is no table")
				}
			}
		case *ast.FuncDecl:
			if set.Position(d.End()).Line-set.Position(d.Pos()).Line > longestFunction {
				tell(d, "a long function")
			}
		}
	}
	ast.Inspect(file, func(node ast.Node) bool {
		if what := fault(node); what != "" {
			tell(node, what)
		}
		return true
	})
	return found
}

func isTable(v *ast.ValueSpec) bool {
	for _, value := range v.Values {
		literal, ok := value.(*ast.CompositeLit)
		if !ok {
			return false
		}
		if array, ok := literal.Type.(*ast.ArrayType); !ok || array.Len == nil {
			return false
		}
	}
	return len(v.Values) > 0
}

func fault(node ast.Node) string {
	switch n := node.(type) {
	case *ast.ImportSpec:
		if path := strings.Trim(n.Path.Value, `"`); path != "strconv" && !strings.HasPrefix(path, "winnow/") {
			return "an import of " + path
		}
	case *ast.GoStmt, *ast.DeferStmt, *ast.SendStmt, *ast.SelectStmt, *ast.ChanType:
		return "a goroutine, a channel or a defer"
	case *ast.MapType, *ast.InterfaceType, *ast.FuncLit:
		return "a map, an interface or a closure"
	case *ast.FuncType:
		if n.TypeParams != nil {
			return "a generic function"
		}
	case *ast.Field:
		if _, ok := n.Type.(*ast.FuncType); ok {
			return "a function value"
		}
	case *ast.BasicLit:
		if n.Kind == token.FLOAT || n.Kind == token.IMAG {
			return "a float"
		}
	case *ast.Ident:
		for _, name := range []string{"panic", "recover", "cap", "any", "error", "float32", "float64", "complex64", "complex128"} {
			if n.Name == name {
				return "the word " + name
			}
		}
	case *ast.AssignStmt:
		for _, target := range n.Lhs {
			if _, ok := target.(*ast.Ident); !ok && len(n.Lhs) > 1 {
				return "an assignment to several targets that are not plain names"
			}
		}
	}
	return ""
}
