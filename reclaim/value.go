package reclaim

import "reclaim/api"

// The kinds of values, as OpKind answers them.
const (
	kindNil    = 0
	kindNumber = 1
	kindRef    = 2
)

// value: num is the number, or of a reference the block's number. It is 0 for nil, so that the zero value is nil.
type value struct {
	kind int
	num  int
}

func sameValue(a, b value) bool { return a.kind == b.kind && a.num == b.num }

// checkRef tells why v is no reference.
func checkRef(v value) api.Errno {
	switch v.kind {
	case kindNil:
		return api.ErrNil
	case kindNumber:
		return api.ErrKind
	}
	return api.OK
}
