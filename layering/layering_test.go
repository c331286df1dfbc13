// Package layering tests what holds for the program files of all packages: what they import, and that nothing but plain Go steers their compilation.
package layering

import (
	"go/parser"
	"go/token"
	"io/fs"
	"os"
	"path/filepath"
	"slices"
	"strconv"
	"strings"
	"testing"
)

const module = "pilaster/"

// order returns the packages from the lowest one to the highest one.
func order() []string {
	return strings.Fields(`api ident lexer syntax parsecore parsemod printer scope kind tycon kinding normal term kernel value eval step
		unify scheme datatype pattern useful decision matchterm sem encode canon lookup subsig where coerce env tyelab sigelab infer lift modelab
		avoid iface digest unit recompile link erase lambda closure bytecode compile verify heap collect machine simulate store build explain console`)
}

// library returns the permitted packages of the standard library. None of them can ask for the time, a random number, a file, or the environment (P3).
func library() []string {
	return strings.Fields(`bytes cmp container/heap errors iter maps math math/bits slices sort strconv strings sync sync/atomic unicode unicode/utf8`)
}

// programFiles returns the paths of the Go files of the program, which tests are no part of.
func programFiles(t *testing.T) []string {
	var l []string
	err := filepath.WalkDir("..", func(path string, d fs.DirEntry, err error) error {
		if err != nil {
			return err
		}
		if d.IsDir() && (d.Name() == ".git" || d.Name() == "sharedtests") {
			return filepath.SkipDir
		}
		if strings.HasSuffix(path, ".go") && !strings.HasSuffix(path, "_test.go") {
			l = append(l, path)
		}
		return nil
	})
	if err != nil {
		t.Fatal(err)
	}
	return l
}

func mayImport(from, to string) bool {
	to, own := strings.CutPrefix(to, module)
	if !own {
		return slices.Contains(library(), to)
	}
	i, j := slices.Index(order(), from), slices.Index(order(), to)
	return i < 0 || j < 0 || j < i
}

func TestImports(t *testing.T) {
	for _, path := range programFiles(t) {
		f, err := parser.ParseFile(token.NewFileSet(), path, nil, parser.ImportsOnly)
		if err != nil {
			t.Error(err)
			continue
		}
		from := filepath.Base(filepath.Dir(path))
		for _, spec := range f.Imports {
			to, err := strconv.Unquote(spec.Path.Value)
			if err != nil || !mayImport(from, to) {
				t.Error(path, "imports", spec.Path.Value)
			}
		}
	}
}

func TestEachLayerHasAPackage(t *testing.T) {
	files := programFiles(t)
	for _, name := range order() {
		if !slices.ContainsFunc(files, func(path string) bool { return filepath.Dir(path) == filepath.Join("..", name) }) {
			t.Error(name)
		}
	}
}

func TestNoDirectives(t *testing.T) {
	for _, path := range programFiles(t) {
		text, err := os.ReadFile(path)
		if err != nil {
			t.Fatal(err)
		}
		for line := range strings.Lines(string(text)) {
			if strings.HasPrefix(line, "//go:") || strings.HasPrefix(line, "// +build") {
				t.Error(path, line)
			}
		}
	}
}
