package expand

import "doorkeeper/api"

// maxScopes is how many scopes of modules there may be in all.
const maxScopes = 400

// whole is around all scopes of one call.
type whole struct {
	defines map[string]api.Block // of each label the first one
	begun   int                  // scopes of modules
	wants   []api.Want
}

func newWhole(l []api.Block) *whole {
	w := &whole{defines: map[string]api.Block{}}
	for _, b := range l {
		if _, have := w.defines[b.Label]; b.Kind == api.BDefine && !have {
			w.defines[b.Label] = b
		}
	}
	return w
}

// define tells the blocks of a define.
func (w *whole) define(label string) ([]api.Block, api.Errno) {
	b, have := w.defines[label]
	if !have {
		return nil, api.ErrNone
	}
	return b.Blocks, api.OK
}

// within tells that there is no further scope that could be the define's.
func (w *whole) within(string) bool {
	return false
}

// begin counts one more scope of a module.
func (w *whole) begin() api.Errno {
	if w.begun == maxScopes {
		return api.ErrLarge
	}
	w.begun++
	return api.OK
}

func (w *whole) declare(want api.Want) api.Errno {
	if len(w.wants) == api.MaxNodes {
		return api.ErrLarge
	}
	w.wants = append(w.wants, want)
	return api.OK
}
