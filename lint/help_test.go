package lint_test

import (
	"slices"
	"strconv"
	"strings"
	"testing"

	"doorkeeper/api"
	"doorkeeper/lint"
	"doorkeeper/parse"
)

// longest is a name, and a label, of MaxName bytes.
var longest = "n" + strings.Repeat("x", api.MaxName-1)

func tree(l ...api.Node) []api.Node            { return l }
func numNode(n int) api.Node                   { return api.Node{Kind: api.NNum, Num: n} }
func ref(s string) api.Node                    { return api.Node{Kind: api.NRef, Text: s} }
func str(l ...api.Part) api.Node               { return api.Node{Kind: api.NStr, Parts: l} }
func plain(s string) api.Part                  { return api.Part{Text: s} }
func refPart(s string) api.Part                { return api.Part{Ref: true, Text: s} }
func of(kind int, kids ...int) api.Node        { return api.Node{Kind: kind, Kids: kids} }
func attr(name string, l ...api.Node) api.Attr { return api.Attr{Name: name, Expr: l} }
func block(kind int, label string, l ...api.Attr) api.Block {
	return api.Block{Kind: kind, Label: label, Attrs: l}
}
func define(label string, l ...api.Block) api.Block {
	return api.Block{Kind: api.BDefine, Label: label, Blocks: l}
}

// blocks are those of all texts, one behind the other: so there may be more than one text may have.
func blocks(t *testing.T, texts ...string) []api.Block {
	t.Helper()
	var all []api.Block
	for _, s := range texts {
		l, e := parse.Parse(s)
		if e != api.OK {
			t.Fatalf("the test's own: Parse(%.200q): error %d", s, e)
		}
		all = append(all, l...)
	}
	return all
}

// each tells s so many times, with its place for each #.
func each(n int, s string) string {
	all := ""
	for i := range n {
		all += strings.ReplaceAll(s, "#", strconv.Itoa(i)) + " "
	}
	return all
}

// written writes warnings: of each the first letter of its kind, and its name.
func written(l []api.Warn) string {
	kinds := map[int]string{api.WVariable: "v", api.WLocal: "l", api.WDefine: "d"}
	var all []string
	for _, w := range l {
		kind, have := kinds[w.Kind]
		if !have {
			kind = strconv.Itoa(w.Kind)
		}
		all = append(all, kind+":"+w.Name)
	}
	return strings.Join(all, " ")
}

// writtenBlocks writes all of blocks, and of the room behind each of their lists.
func writtenBlocks(l []api.Block) string {
	return string(writeBlocks(nil, l))
}

func writeBlocks(b []byte, l []api.Block) []byte {
	for _, x := range l[:cap(l)] {
		b = append(strconv.AppendInt(append(b, '\n'), int64(x.Kind), 10), x.Label...)
		for _, a := range x.Attrs[:cap(x.Attrs)] {
			b = writeNodes(append(append(b, ' '), a.Name...), a.Expr)
		}
		b = append(writeBlocks(append(b, '{'), x.Blocks), '}')
	}
	return b
}

func writeNodes(b []byte, l []api.Node) []byte {
	for _, n := range l[:cap(l)] {
		b = strconv.AppendInt(append(b, '.'), int64(n.Kind), 10)
		b = strconv.AppendInt(append(b, ' '), int64(n.Num), 10)
		b = append(append(b, ' '), n.Text...)
		for _, p := range n.Parts[:cap(n.Parts)] {
			b = strconv.AppendQuote(strconv.AppendBool(b, p.Ref), p.Text)
		}
		for _, kid := range n.Kids[:cap(n.Kids)] {
			b = strconv.AppendInt(append(b, ' '), int64(kid), 10)
		}
	}
	return b
}

// call holds what was handed in against what stands there behind the call (R3).
func call(t *testing.T, l []api.Block) []api.Warn {
	t.Helper()
	before := writtenBlocks(l)
	told := lint.Warns(l)
	if writtenBlocks(l) != before {
		t.Errorf("Warns of %.300s changed what was handed in", before)
	}
	return told
}

// wantBlocks asks for the warnings of blocks.
func wantBlocks(t *testing.T, want string, l []api.Block) {
	t.Helper()
	if got := written(call(t, l)); got != want {
		t.Errorf("Warns of %.400s: %.300q; want %.300q", writtenBlocks(l), got, want)
	}
}

// want asks for the warnings of a text.
func want(t *testing.T, want, s string) {
	t.Helper()
	if got := written(call(t, blocks(t, s))); got != want {
		t.Errorf("Warns of %.600s: %.300q; want %.300q", s, got, want)
	}
}

// slow is a warning as another, slower, way tells it, with the blocks that are left without what is meant.
type slow struct {
	warn    api.Warn
	without []api.Block
}

func writtenSlow(l []slow) string {
	var warns []api.Warn
	for _, s := range l {
		warns = append(warns, s.warn)
	}
	return written(warns)
}

// warnsSlowly looks for each name in all that could refer to it.
func warnsSlowly(l []api.Block) []slow {
	all := scopeSlowly(l, "")
	for i, b := range l {
		if b.Kind != api.BDefine {
			continue
		}
		for _, s := range scopeSlowly(b.Blocks, b.Label+".") {
			less := slices.Clone(l)
			less[i].Blocks = s.without
			all = append(all, slow{s.warn, less})
		}
	}
	for i, b := range l {
		if b.Kind == api.BDefine && !usedSlowly(l, b.Label) {
			all = append(all, slow{api.Warn{Kind: api.WDefine, Name: b.Label}, cut(l, i)})
		}
	}
	return all
}

func cut[T any](l []T, i int) []T {
	return slices.Delete(slices.Clone(l), i, i+1)
}

func scopeSlowly(l []api.Block, prefix string) []slow {
	var all []slow
	for i, b := range l {
		if b.Kind == api.BVariable && !namedSlowly(l, "var", b.Label) {
			all = append(all, slow{api.Warn{Kind: api.WVariable, Name: prefix + b.Label}, cut(l, i)})
		}
	}
	for i, b := range l {
		for k, a := range b.Attrs {
			if b.Kind == api.BLocals && !namedSlowly(l, "local", a.Name) {
				less := slices.Clone(l)
				less[i].Attrs = cut(b.Attrs, k)
				all = append(all, slow{api.Warn{Kind: api.WLocal, Name: prefix + a.Name}, less})
			}
		}
	}
	return all
}

// namedSlowly tells whether some attribute of locals, nodes, modules has that reference.
func namedSlowly(l []api.Block, first, second string) bool {
	for _, b := range l {
		for _, a := range b.Attrs {
			for _, n := range a.Expr {
				is := func(p api.Part) bool { return p.Ref && p.Text == first+"."+second }
				if b.Kind != api.BVariable && (is(api.Part{Ref: n.Kind == api.NRef, Text: n.Text}) || slices.ContainsFunc(n.Parts, is)) {
					return true
				}
			}
		}
	}
	return false
}

// usedSlowly tells whether some module, wherever it stands, uses that label, or may.
func usedSlowly(l []api.Block, label string) bool {
	for _, b := range l {
		if usedSlowly(b.Blocks, label) {
			return true
		}
		for _, a := range b.Attrs {
			if b.Kind != api.BModule || a.Name != "use" {
				continue
			}
			root := a.Expr[len(a.Expr)-1]
			if root.Kind != api.NStr || len(root.Parts) != 1 || root.Parts[0].Ref || root.Parts[0].Text == label {
				return true
			}
		}
	}
	return false
}

// wantSlowly asks for what the other way tells.
func wantSlowly(t *testing.T, l []api.Block) []slow {
	t.Helper()
	all := warnsSlowly(l)
	wantBlocks(t, writtenSlow(all), l)
	return all
}
