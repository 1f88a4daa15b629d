package vec

import (
	"strconv"

	"doorkeeper/api"
)

// Text tells v, one that may not be, too: what is left may be below nought.
func Text(v api.Vec) string {
	return "cpu=" + strconv.Itoa(v.Cpu) + " mem=" + strconv.Itoa(v.Mem) + " pods=" + strconv.Itoa(v.Pods)
}
