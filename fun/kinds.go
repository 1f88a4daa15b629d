package fun

import "doorkeeper/api"

// kind is what an argument is to be.
type kind int

const (
	anything kind = iota
	number
	text
	list
	numbers // a list of them
	texts
	sized // a list, or a text
)

func (k kind) fits(v api.Val) bool {
	switch k {
	case number:
		return v.Kind == api.VInt
	case text:
		return v.Kind == api.VStr
	case list:
		return v.Kind == api.VList
	case numbers:
		return list.fits(v) && number.fitAll(v.L...)
	case texts:
		return list.fits(v) && text.fitAll(v.L...)
	case sized:
		return list.fits(v) || text.fits(v)
	}
	return true // anything
}

func (k kind) fitAll(l ...api.Val) bool {
	for _, v := range l {
		if !k.fits(v) {
			return false
		}
	}
	return true
}
