package parse

import (
	"slices"
	"strings"

	"doorkeeper/api"
	"doorkeeper/lex"
)

// Tree tells whether Expr could tell l of some text of any length and depth. Brackets leave no node: so each kind may be
// the kid of each other, and ranks need not be looked at.
func Tree(l []api.Node) bool {
	var roots []int // the places of those that are nobody's kids so far
	for i, n := range l {
		rest := len(roots) - len(n.Kids)
		if rest < 0 || !slices.Equal(roots[rest:], n.Kids) || !node(n) {
			return false
		}
		roots = append(roots[:rest], i)
	}
	return len(roots) == 1
}

// May tells whether Parse could tell l of some text of any length and depth.
func May(l []api.Block) bool {
	for _, b := range l {
		if !block(b) || !May(b.Blocks) {
			return false
		}
	}
	return true
}

// block asks all but whether the blocks within may be for themselves.
func block(b api.Block) bool {
	switch b.Kind {
	case api.BDefine:
		return lex.Label(b.Label) && len(b.Attrs) == 0 && !slices.ContainsFunc(b.Blocks, define)
	case api.BVariable, api.BNode, api.BModule:
		return lex.Label(b.Label) && attrs(b.Attrs) && len(b.Blocks) == 0
	case api.BLocals:
		return b.Label == "" && attrs(b.Attrs) && len(b.Blocks) == 0
	}
	return false
}

func define(b api.Block) bool {
	return b.Kind == api.BDefine
}

func attrs(l []api.Attr) bool {
	had := names{}
	for _, a := range l {
		if !name(a.Name) || !had.add(a.Name) || !Tree(a.Expr) {
			return false
		}
	}
	return true
}

// node asks all but where the kids stand.
func node(n api.Node) bool {
	return kids(n.Kind, len(n.Kids)) && num(n) && text(n) && (n.Kind == api.NStr || len(n.Parts) == 0) && parts(n.Parts)
}

// kids tells whether a node of that kind may have so many.
func kids(kind, count int) bool {
	switch {
	case kind == api.NCall, kind == api.NList:
		return true
	case kind >= api.NNum && kind <= api.NRef:
		return count == 0
	case kind == api.NNot, kind == api.NNeg:
		return count == 1
	case kind == api.NIndex, kind >= api.NOr && kind <= api.NMod:
		return count == 2
	case kind == api.NIf:
		return count == 3
	}
	return false
}

func num(n api.Node) bool {
	switch n.Kind {
	case api.NNum:
		return n.Num >= 0
	case api.NBool:
		return n.Num == 0 || n.Num == 1
	}
	return n.Num == 0
}

func text(n api.Node) bool {
	switch n.Kind {
	case api.NCall:
		return name(n.Text) && !truth(n.Text)
	case api.NRef:
		first, _, _ := strings.Cut(n.Text, ".")
		return reference(n.Text) && !truth(first)
	}
	return n.Text == ""
}

// parts asks whether layer 1 tells such parts of a text.
func parts(l []api.Part) bool {
	for i, p := range l {
		if p.Ref && !reference(p.Text) || !p.Ref && !plain(p.Text) {
			return false
		}
		if i > 0 && !p.Ref && !l[i-1].Ref {
			return false
		}
	}
	return true
}

// plain asks whether s may stand as it is within a text, by escapes if need be.
func plain(s string) bool {
	for i := range len(s) {
		if s[i] < ' ' && s[i] != '\n' {
			return false
		}
	}
	return s != ""
}

// reference asks for two names with a dot.
func reference(s string) bool {
	first, second, _ := strings.Cut(s, ".")
	return name(first) && name(second)
}

// name leaves it to layer 1 what a name is.
func name(s string) bool {
	l, _ := lex.Lex(s)
	return len(l) == 2 && l[0].Kind == api.TokName && l[0].Text == s
}

func truth(name string) bool {
	return name == "true" || name == "false"
}
