package lint_test

import (
	"strings"
	"testing"

	"doorkeeper/api"
	"doorkeeper/lint"
)

func wantText(t *testing.T, want string, kind int, name string) {
	t.Helper()
	if got := lint.Text(api.Warn{Kind: kind, Name: name}); got != want {
		t.Errorf("Text of kind %d, %.80q: %.120q; want %.120q", kind, name, got, want)
	}
}

// 9.1: a warning of each kind in words; of other kinds its name alone.
func TestText(t *testing.T) {
	words := map[int]string{api.WVariable: "variable ", api.WLocal: "local ", api.WDefine: "define "}
	for _, name := range []string{"x", "d.x", "a-b", "", " ", "is not used", "a\nb", "\x00", "\xff\xfe", `"`, "%s", longest + "." + longest, strings.Repeat("x", 1<<20)} {
		for kind := -9; kind <= 9; kind++ {
			if word, have := words[kind]; have {
				wantText(t, word+name+" is not used", kind, name)
			} else {
				wantText(t, name, kind, name)
			}
		}
		for _, kind := range []int{1 << 40, 1<<63 - 1, -1 << 63, 1<<32 + 1, 1<<32 + 2, 256 + 3, ^api.WVariable} {
			wantText(t, name, kind, name)
		}
	}
	wantText(t, "variable x is not used", 1, "x")
	wantText(t, "local d.x is not used", 2, "d.x")
	wantText(t, "define d is not used", 3, "d")
	wantText(t, "variable  is not used", 1, "")
	wantText(t, "", 0, "")
	if got := lint.Text(api.Warn{}); got != "" {
		t.Errorf("Text of nothing: %q", got)
	}
}

// 9.1: what Warns tells, in words.
func TestTextsOfWarns(t *testing.T) {
	l := lint.Warns(blocks(t, `variable "v" {} locals { l = 1 } define "d" { variable "v" {} locals { l = 1 } }`))
	wanted := []string{"variable v is not used", "local l is not used", "variable d.v is not used", "local d.l is not used", "define d is not used"}
	if len(l) != len(wanted) {
		t.Fatalf("%d warnings; want %d", len(l), len(wanted))
	}
	for i, w := range l {
		wantText(t, wanted[i], w.Kind, w.Name)
	}
}
