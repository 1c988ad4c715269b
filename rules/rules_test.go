// Package rules tests that all packages keep to the rules of the language and of the map of layers.
package rules

import (
	"bytes"
	"go/ast"
	"go/format"
	"go/parser"
	"go/token"
	"io/fs"
	"os"
	"path/filepath"
	"slices"
	"strconv"
	"strings"
	"testing"
)

const root = ".."

// longest is how many lines a function may have.
const longest = 60

// library is what may be imported from outside the project.
const library = " bytes cmp container/heap errors iter maps math math/bits slices sort strconv strings sync sync/atomic unicode unicode/utf8 "

// calls are the layers that a layer calls; api may be called by all.
var calls = map[string]string{
	"api": "", "span": "", "edit": "", "runes": "", "token": "runes", "delta": "", "tree": "",
	"parse": "token tree", "layout": "token tree", "term": "parse token", "relate": "term", "value": "runes", "scope": "",
	"project":  "parse scope token",
	"index":    "project scope token tree",
	"check":    "project relate scope term tree",
	"run":      "check project relate runes scope term value",
	"change":   "delta edit token",
	"graph":    "",
	"rename":   "change check index project token",
	"extract":  "change check project rename scope term token tree",
	"inline":   "change check project rename scope term token tree",
	"move":     "change edit index project rename scope",
	"imports":  "change project rename scope",
	"annotate": "change check edit index project rename scope term tree",
	"engine":   "annotate change extract imports inline move project rename",
	"session":  "change check edit engine extract graph index project run term token",
	"lint":     "index project scope tree",
	"offer":    "check project scope term token",
	"fold":     "change edit project rename runes tree",
	"script":   "change engine fold layout lint offer project run runes session token",
	"history":  "change edit",
	"report":   "check index project runes scope span term",
}

// source is a Go file of the program, without tests.
type source struct {
	path, layer string
	text        []byte
	fset        *token.FileSet
	file        *ast.File
}

// isForeign says whether a folder holds what isn't the program's: tests that were laid beside it, and what is hidden.
func isForeign(name string) bool {
	return name == "sharedtests" || strings.HasPrefix(name, ".") && name != ".."
}

func sources(t *testing.T) []source {
	t.Helper()
	var out []source
	err := filepath.WalkDir(root, func(path string, d fs.DirEntry, err error) error {
		switch {
		case err != nil:
			return err
		case d.IsDir() && isForeign(d.Name()):
			return fs.SkipDir
		case d.IsDir() || !strings.HasSuffix(path, ".go") || strings.HasSuffix(path, "_test.go"):
			return nil
		}
		text, err := os.ReadFile(path)
		if err != nil {
			return err
		}
		fset := token.NewFileSet()
		file, err := parser.ParseFile(fset, path, text, parser.ParseComments)
		out = append(out, source{path, filepath.Base(filepath.Dir(path)), text, fset, file})
		return err
	})
	if err != nil || len(out) < len(calls) {
		t.Fatal("not all sources were read:", len(out), err)
	}
	return out
}

func TestImports(t *testing.T) {
	for _, s := range sources(t) {
		below, known := calls[s.layer]
		for _, spec := range s.file.Imports {
			path, _ := strconv.Unquote(spec.Path.Value)
			layer, own := strings.CutPrefix(path, "whetstone/")
			switch {
			case own && known && layer != "api" && !slices.Contains(strings.Fields(below), layer):
				t.Errorf("%s: layer %s doesn't call %s", s.path, s.layer, layer)
			case !own && !strings.Contains(library, " "+path+" "):
				t.Errorf("%s: imports %s", s.path, path)
			}
		}
	}
}

func TestLayersStand(t *testing.T) {
	stands := map[string]bool{}
	for _, s := range sources(t) {
		stands[s.layer] = true
	}
	for layer := range calls {
		if !stands[layer] {
			t.Errorf("there is no package %s", layer)
		}
	}
}

func TestFunctionsAreSmall(t *testing.T) {
	for _, s := range sources(t) {
		for _, d := range s.file.Decls {
			f, ok := d.(*ast.FuncDecl)
			if !ok {
				continue
			}
			from, to := s.fset.Position(f.Pos()).Line, s.fset.Position(f.End()).Line
			if to-from+1 > longest {
				t.Errorf("%s:%d: %s has %d lines", s.path, from, f.Name.Name, to-from+1)
			}
		}
	}
}

func TestLayoutIsGofmts(t *testing.T) {
	for _, s := range sources(t) {
		if want, err := format.Source(s.text); err != nil || !bytes.Equal(s.text, want) {
			t.Errorf("%s: not laid out by gofmt: %v", s.path, err)
		}
	}
}

func TestNoDirectives(t *testing.T) {
	for _, s := range sources(t) {
		for _, g := range s.file.Comments {
			for _, c := range g.List {
				if strings.HasPrefix(c.Text, "//go:") || strings.HasPrefix(c.Text, "// +build") {
					t.Errorf("%s:%d: %s", s.path, s.fset.Position(c.Pos()).Line, c.Text)
				}
			}
		}
	}
}

// What a package keeps from call to call would be a variable without a value of its own.
func TestPackageVariablesHaveValues(t *testing.T) {
	for _, s := range sources(t) {
		ast.Inspect(s.file, func(n ast.Node) bool {
			if _, ok := n.(*ast.FuncDecl); ok {
				return false
			}
			if v, ok := n.(*ast.ValueSpec); ok && len(v.Values) == 0 && isVariable(s.file, v) {
				t.Errorf("%s:%d: a variable without a value", s.path, s.fset.Position(v.Pos()).Line)
			}
			return true
		})
	}
}

func isVariable(f *ast.File, v *ast.ValueSpec) bool {
	for _, d := range f.Decls {
		if g, ok := d.(*ast.GenDecl); ok && g.Tok == token.VAR && slices.Contains(g.Specs, ast.Spec(v)) {
			return true
		}
	}
	return false
}
