package record

import (
	"strconv"
	"strings"

	"doorkeeper/api"
)

// words reads a line word by word. It is wrong, once a word was not as it should be; what is read then says nothing.
type words struct {
	left  string
	end   bool
	wrong bool
}

func wordsOf(line string) words { return words{left: line} }

// must notes what should hold.
func (w *words) must(is bool) {
	if !is {
		w.wrong = true
	}
}

// whole asks whether all was read, and nothing was wrong.
func (w *words) whole() bool { return w.end && !w.wrong }

// next reads a word. Between two blanks, and behind the end, stands an empty one, which is none of a line's.
func (w *words) next() string {
	word, left, more := strings.Cut(w.left, " ")
	w.left, w.end = left, !more
	return word
}

// skip reads a word that says nothing by itself.
func (w *words) skip(word string) { w.must(w.next() == word) }

// name reads a name. It has one word alone: what is told otherwise than that is none. Of longer ones no name may be.
func (w *words) name() string {
	word := w.next()
	if len(word) > len("%00")*api.MaxName {
		w.must(false)
		return ""
	}
	name := named(word)
	w.must(nameWord(name) == word)
	return name
}

// named is what a word says, if it is a name's.
func named(word string) string {
	if word == noName {
		return ""
	}
	var name strings.Builder
	for i := 0; i < len(word); i++ {
		b := word[i]
		if b == '%' && i+2 < len(word) {
			b = digit(word[i+1])*16 + digit(word[i+2])
			i += 2
		}
		name.WriteByte(b)
	}
	return name.String()
}

// digit tells anything of what is none: the word is held against that of the name.
func digit(b byte) byte { return byte(strings.IndexByte(digits, b)) }

// number reads a number. What is none, or too great, is another one's word.
func (w *words) number() int {
	word := w.next()
	n, _ := strconv.Atoi(word)
	w.must(strconv.Itoa(n) == word)
	return n
}

func (w *words) amount() api.Vec {
	return api.Vec{Cpu: w.number(), Mem: w.number(), Pods: w.number()}
}

func (w *words) mark() api.Mark {
	var m api.Mark
	m.Name = w.name()
	w.skip("in")
	m.Parent = w.name()
	w.skip("with")
	m.Limit = w.amount()
	w.skip("at")
	m.Ver = w.number()
	w.must(MayMark(m))
	return m
}

// step reads a step. One of no Kind may not be.
func (w *words) step() api.Step {
	var s api.Step
	switch w.next() {
	case "create":
		s.Kind, s.Name = api.SCreate, w.name()
		w.skip("in")
		s.Parent = w.name()
		w.skip("with")
		s.Limit = w.amount()
	case "limit":
		s.Kind, s.Name = api.SLimit, w.name()
		w.skip("to")
		s.Limit = w.amount()
	case "move":
		s.Kind, s.Name = api.SMove, w.name()
		w.skip("to")
		s.Parent = w.name()
	case "delete":
		s.Kind, s.Name = api.SDelete, w.name()
	}
	w.must(MayStep(s))
	return s
}
