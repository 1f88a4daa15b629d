package record

import "doorkeeper/api"

// lastVer is as far as versions go; many marks, and steps, are as many as may be kept.
const (
	lastVer   = 1 << 53
	manyMarks = 2 * api.MaxNodes
	manySteps = 4 * api.MaxNodes
)

func mayBeName(name string) bool { return name != "" && len(name) <= api.MaxName }

// mayBeParent lets the root be, which has no name.
func mayBeParent(name string) bool { return len(name) <= api.MaxName }

func mayBeMarks(marks []api.Mark) bool {
	if len(marks) > manyMarks {
		return false
	}
	for i, m := range marks {
		if !MayMark(m) || i > 0 && m.Name <= marks[i-1].Name {
			return false
		}
	}
	return true
}

func mayBePlan(steps []api.Step) bool {
	if len(steps) > manySteps {
		return false
	}
	for _, s := range steps {
		if !MayStep(s) {
			return false
		}
	}
	return true
}
