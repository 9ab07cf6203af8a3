package seglog

import (
	"strconv"
	"strings"

	"rubric/api"
)

const (
	prefix = "seg-"
	maxID  = 1<<31 - 1
)

// Name: of a segment's file; ErrRange, if the id is outside.
func Name(id int) (string, api.Errno) {
	if id < 1 || id > maxID {
		return "", api.ErrRange
	}
	return prefix + strconv.Itoa(id), api.OK
}

// ID: of the segment whose name it is, and whether it is one's.
func ID(name string) (int, bool) {
	id, err := strconv.Atoi(strings.TrimPrefix(name, prefix))
	// A number may be written otherwise than a name has it: with a sign, or with zeros ahead.
	if its, e := Name(id); err != nil || e != api.OK || its != name {
		return 0, false
	}
	return id, true
}

// namesOf: of the files of segments; ErrRange, if an id is outside.
func namesOf(ids ...int) ([]string, api.Errno) {
	l := make([]string, 0, len(ids))
	for _, id := range ids {
		name, e := Name(id)
		if e != api.OK {
			return nil, e
		}
		l = append(l, name)
	}
	return l, api.OK
}
