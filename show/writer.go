package show

import "doorkeeper/api"

// writer keeps what is written.
type writer struct {
	bytes []byte
}

func (w *writer) written() string {
	return string(w.bytes)
}

func (w *writer) put(l ...string) {
	for _, s := range l {
		w.bytes = append(w.bytes, s...)
	}
}

// quote writes a text of those parts.
func (w *writer) quote(l []api.Part) {
	w.put(`"`)
	for _, p := range l {
		if p.Ref {
			w.put("${", p.Text, "}")
		} else {
			w.escape(p.Text)
		}
	}
	w.put(`"`)
}

// escape goes byte by byte: what is no rune is kept as it is.
func (w *writer) escape(s string) {
	for i := range len(s) {
		switch b := s[i]; b {
		case '\n':
			w.put(`\n`)
		case '"', '\\', '$':
			w.bytes = append(w.bytes, '\\', b)
		default:
			w.bytes = append(w.bytes, b)
		}
	}
}
