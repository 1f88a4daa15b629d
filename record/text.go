package record

import (
	"strconv"
	"strings"

	"doorkeeper/api"
)

// digits are those of the bytes that stand in no name as they are; noName is the word of the empty name.
const (
	digits = "0123456789abcdef"
	noName = "/"
)

// row puts one blank between words.
func row(words ...string) string { return strings.Join(words, " ") }

func plain(b byte) bool {
	return b >= 'A' && b <= 'Z' || b >= 'a' && b <= 'z' || b >= '0' && b <= '9' || b == '-' || b == '_' || b == '.'
}

// nameWord tells a name so that it has no blanks.
func nameWord(name string) string {
	if name == "" {
		return noName
	}
	var word strings.Builder
	for _, b := range []byte(name) {
		if plain(b) {
			word.WriteByte(b)
			continue
		}
		word.WriteByte('%')
		word.WriteByte(digits[b/16])
		word.WriteByte(digits[b%16])
	}
	return word.String()
}

func amountWords(v api.Vec) string {
	return row(strconv.Itoa(v.Cpu), strconv.Itoa(v.Mem), strconv.Itoa(v.Pods))
}

func markWords(m api.Mark) string {
	return row(nameWord(m.Name), "in", nameWord(m.Parent), "with", amountWords(m.Limit), "at", strconv.Itoa(m.Ver))
}

func stepWords(s api.Step) string {
	name := nameWord(s.Name)
	switch s.Kind {
	case api.SCreate:
		return row("create", name, "in", nameWord(s.Parent), "with", amountWords(s.Limit))
	case api.SLimit:
		return row("limit", name, "to", amountWords(s.Limit))
	case api.SMove:
		return row("move", name, "to", nameWord(s.Parent))
	}
	return row("delete", name)
}
