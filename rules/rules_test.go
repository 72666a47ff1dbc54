// Package rules tests what holds for the program as a whole: the numbers of package api, and the language that its packages are written in.
package rules

import (
	"bytes"
	"go/ast"
	"go/format"
	"go/parser"
	"go/token"
	"io/fs"
	"os"
	"path/filepath"
	"slices"
	"strconv"
	"strings"
	"testing"

	"sigil/api"
)

// longest: the most lines of a function.
const longest = 60

func TestErrors(t *testing.T) {
	for e, want := range map[api.Errno]int{
		api.OK: 0, api.ErrZero: 10, api.ErrDigit: 11, api.ErrLarge: 12, api.ErrSort: 20, api.ErrCodec: 21, api.ErrSquare: 22, api.ErrKey: 30, api.ErrCurve: 40, api.ErrPoint: 41, api.ErrLength: 50, api.ErrSize: 60, api.ErrDegree: 70, api.ErrMode: 80, api.ErrTape: 81, api.ErrShort: 82, api.ErrParams: 90, api.ErrDegenerate: 100, api.ErrNode: 110, api.ErrCircuit: 120, api.ErrSheet: 130, api.ErrRegion: 140, api.ErrRows: 141, api.ErrVkey: 150, api.ErrUnsatisfied: 200, api.ErrInstance: 210, api.ErrTail: 211, api.ErrVanishing: 212, api.ErrOpening: 213, api.ErrTree: 230, api.ErrSyntax: 240, api.ErrCommand: 250, api.ErrScript: 251,
	} {
		if int(e) != want {
			t.Errorf("an error's number is %d, not %d", e, want)
		}
		var asError error = e
		if !strings.Contains(asError.Error(), strconv.Itoa(want)) {
			t.Errorf("%q doesn't tell %d", asError.Error(), want)
		}
	}
}

func TestLimits(t *testing.T) {
	got := []int{api.MaxK, api.MaxColumns, api.MaxNodes, api.MaxDegree, api.MaxRot, api.MaxTape, api.MaxTerms, api.MaxText, api.ScriptCap, api.LineCap, api.OutCap}
	want := []int{5, 8, 64, 8, 3, 100000, 100000, 100000, 500, 65536, 1048576}
	if !slices.Equal(got, want) {
		t.Errorf("the limits are %v, not %v", got, want)
	}
}

// sources: each Go file of the program, its tests and those that are laid beside it left out.
func sources(t *testing.T, look func(path string, text []byte)) {
	t.Helper()
	err := filepath.WalkDir("..", func(path string, d fs.DirEntry, err error) error {
		if err != nil {
			return err
		}
		if d.IsDir() && (d.Name() == "sharedtests" || d.Name() != ".." && strings.HasPrefix(d.Name(), ".")) {
			return filepath.SkipDir
		}
		if d.IsDir() || !strings.HasSuffix(path, ".go") || strings.HasSuffix(path, "_test.go") {
			return nil
		}
		text, err := os.ReadFile(path)
		if err == nil {
			look(path, text)
		}
		return err
	})
	if err != nil {
		t.Fatal(err)
	}
}

func TestLayout(t *testing.T) {
	seen := 0
	sources(t, func(path string, text []byte) {
		seen++
		laid, err := format.Source(text)
		if err != nil {
			t.Fatal(err)
		}
		if !bytes.Equal(laid, text) {
			t.Errorf("%s isn't in gofmt's layout", path)
		}
	})
	if seen < 24 {
		t.Errorf("%d files: some packages are missing", seen)
	}
}

func TestLanguage(t *testing.T) {
	allowed := strings.Fields("bytes cmp container/heap errors iter maps math math/bits slices sort strconv strings sync sync/atomic unicode unicode/utf8")
	sources(t, func(path string, text []byte) {
		files := token.NewFileSet()
		file, err := parser.ParseFile(files, path, text, parser.ParseComments)
		if err != nil {
			t.Fatal(err)
		}
		for _, i := range file.Imports {
			name, _ := strconv.Unquote(i.Path.Value)
			if !slices.Contains(allowed, name) && !strings.HasPrefix(name, "sigil/") {
				t.Errorf("%s imports %s", path, name)
			}
		}
		for _, group := range file.Comments {
			for _, c := range group.List {
				if strings.HasPrefix(c.Text, "//go:") || strings.HasPrefix(c.Text, "// +build") {
					t.Errorf("%s has the line %s", path, c.Text)
				}
			}
		}
		for _, d := range file.Decls {
			f, ok := d.(*ast.FuncDecl)
			if ok && files.Position(f.End()).Line-files.Position(f.Pos()).Line >= longest {
				t.Errorf("%s: %s is longer than %d lines", path, f.Name.Name, longest)
			}
		}
	})
}
