package parse_test

import (
	"slices"
	"strings"
	"testing"

	"doorkeeper/api"
	"doorkeeper/parse"
)

// A grammar, word for word as the chapter has it: a rule has ways, a way has words; a word that is a rule's name stands
// for all its sentences, each other for itself.
type grammar map[string][]string

// exprGrammar has a sign of each rank, a name, a number: not all of them, so that there are few sentences.
var exprGrammar = grammar{
	"expr":  {"or", "or ? expr : expr"},
	"or":    {"and", "or || and"},
	"and":   {"cmp", "and && cmp"},
	"cmp":   {"sum", "sum < sum"},
	"sum":   {"term", "sum - term"},
	"term":  {"un", "term * un"},
	"un":    {"- un", "! un", "post"},
	"post":  {"prim", "post [ expr ]"},
	"prim":  {"1", "true", "f . f", "f . true", "f ( )", "f ( exprs )", "[ ]", "[ exprs ]", "( expr )"},
	"exprs": {"expr", "exprs , expr"},
}

var blockGrammar = grammar{
	"file":   {"", "blocks"},
	"blocks": {"block", "blocks block"},
	"block":  {"simple", `define "a" { }`, `define "a" { inner }`},
	"inner":  {"simple", "inner simple"},
	"simple": {"locals { body", `node "a" { body`},
	"body":   {"}", "attrs }"},
	"attrs":  {"attr", "attrs attr"},
	"attr":   {"name = 1", `name = "a"`},
	"name":   {"x", "locals", "node", "define"},
}

// sentences are those of each rule by their numbers of words, up to a number.
type sentences struct {
	grammar
	told map[string][][]string
}

// of tells the sentences of n words of a rule. No rule is its own first word but with more words behind it.
func (g *sentences) of(rule string, n int) []string {
	l := g.told[rule]
	for len(l) <= n {
		var now []string
		g.told[rule] = append(l, nil) // a rule is asked for while it is being told, for fewer words alone
		for _, way := range g.grammar[rule] {
			now = append(now, g.way(strings.Fields(way), len(l))...)
		}
		slices.Sort(now)
		l = append(l, slices.Compact(now))
		g.told[rule] = l
	}
	return l[n]
}

// way tells the sentences of n words of a way.
func (g *sentences) way(words []string, n int) []string {
	if len(words) == 0 || n == 0 {
		if len(words) == 0 && n == 0 {
			return []string{""}
		}
		return nil
	}
	first, rest := words[0], words[1:]
	if _, rule := g.grammar[first]; !rule {
		return joined([]string{first}, g.way(rest, n-1))
	}
	var l []string
	for k := 1; k <= n-len(rest); k++ {
		l = append(l, joined(g.of(first, k), g.way(rest, n-k))...)
	}
	return l
}

func joined(first, rest []string) []string {
	var l []string
	for _, a := range first {
		for _, b := range rest {
			l = append(l, strings.TrimSpace(a+" "+b))
		}
	}
	return l
}

// language tells all sentences of up to n words.
func language(g grammar, rule string, n int) map[string]bool {
	all := sentences{g, map[string][][]string{}}
	set := map[string]bool{}
	for k := range n + 1 {
		for _, s := range all.of(rule, k) {
			set[s] = true
		}
	}
	return set
}

// words tells what stands for itself.
func (g grammar) words() []string {
	var l []string
	for _, ways := range g {
		for _, way := range ways {
			for _, word := range strings.Fields(way) {
				if _, rule := g[word]; !rule {
					l = append(l, word)
				}
			}
		}
	}
	slices.Sort(l)
	return slices.Compact(l)
}

// eachNear goes through s and what differs from it by one word.
func eachNear(s string, words []string, each func(s string)) {
	each(s)
	l := strings.Fields(s)
	for i := range len(l) + 1 {
		for _, w := range words {
			each(strings.Join(slices.Insert(slices.Clone(l), i, w), " "))
			if i < len(l) {
				each(strings.Join(slices.Replace(slices.Clone(l), i, i+1, w), " "))
			}
		}
		if i < len(l) {
			each(strings.Join(slices.Delete(slices.Clone(l), i, i+1), " "))
		}
	}
}

// 2.1: what the grammar has is told; what it has not, one word off, is ErrForm.
func TestGrammarOfExpr(t *testing.T) {
	const n = 5
	set := language(exprGrammar, "expr", n+1)
	words := append(exprGrammar.words(), "=", "{")
	if len(set) < 3000 || len(words) != 19 {
		t.Fatalf("%d sentences of %d words", len(set), len(words))
	}
	for s := range set {
		if len(strings.Fields(s)) > n {
			wantExprError(t, s, api.OK)
			continue
		}
		eachNear(s, words, func(s string) {
			l, e := parse.Expr(s)
			if set[s] && (e != api.OK || !parse.Tree(l)) || !set[s] && e != api.ErrForm {
				t.Fatalf("Expr(%q): error %d; in the grammar: %t", s, e, set[s])
			}
		})
	}
}

// twice tells whether a body has a name twice, of those words that may be names and are.
func twice(s string, name func(l []string, i int) bool) bool {
	for body := range strings.SplitSeq(s, "}") {
		l := strings.Fields(body)
		var names []string
		for i, word := range l {
			if slices.Contains(blockGrammar["name"], word) && name(l, i) {
				names = append(names, word)
			}
		}
		slices.Sort(names)
		if len(slices.Compact(slices.Clone(names))) < len(names) {
			return true
		}
	}
	return false
}

// wantOfBlocks tells which errors may be of a text that is in the grammar, or is not. The grammar does not know that a
// name stands once in a body; in a text that it has not a name that stands twice may come ahead of what is wrong.
func wantOfBlocks(s string, in bool) []api.Errno {
	switch {
	case in && twice(s, func(l []string, i int) bool { return i+1 < len(l) && l[i+1] == "=" }):
		return []api.Errno{api.ErrHave}
	case in:
		return []api.Errno{api.OK}
	case twice(s, func([]string, int) bool { return true }):
		return []api.Errno{api.ErrForm, api.ErrHave}
	}
	return []api.Errno{api.ErrForm}
}

func TestGrammarOfBlocks(t *testing.T) {
	const n = 12
	set := language(blockGrammar, "file", n+1)
	words := append(blockGrammar.words(), "(")
	if len(set) < 2000 || len(words) != 10 {
		t.Fatalf("%d sentences of %d words", len(set), len(words))
	}
	for s := range set {
		if len(strings.Fields(s)) > n {
			continue
		}
		eachNear(s, words, func(s string) {
			l, e := parse.Parse(s)
			if !slices.Contains(wantOfBlocks(s, set[s]), e) || e == api.OK && !parse.May(l) {
				t.Fatalf("Parse(%q): error %d; in the grammar: %t", s, e, set[s])
			}
		})
	}
}
