package simfs

import (
	"slices"

	"rubric/api"
)

// The numbers that are planned; those above space fail, too, but let an Append put some bytes.
const (
	well   = 0
	broken = 1
	space  = 2
)

// steps: how many there were, and, if armed, how many are left.
type steps struct {
	count int
	armed bool
	left  int
}

// Steps: how many there were.
func (s *steps) Steps() int { return s.count }

// Arm: how many more are done.
func (s *steps) Arm(n int) api.Errno {
	if n < 0 {
		return api.ErrRange
	}
	if s.dead() {
		return api.ErrDead
	}
	s.armed, s.left = true, n
	return api.OK
}

// dead: whether no step is left.
func (s *steps) dead() bool { return s.armed && s.left == 0 }

// begin: the next step counts, if one is left; whether it does.
func (s *steps) begin() bool {
	if s.dead() {
		return false
	}
	s.count++
	if s.armed {
		s.left--
	}
	return true
}

// plans: the numbers that are planned for the next steps.
type plans struct {
	planned []int
}

// Plan: how the next steps go.
func (p *plans) Plan(l []int) { p.planned = slices.Clone(l) }

// next: what is planned for the step that begins.
func (p *plans) next() int {
	if len(p.planned) == 0 {
		return well
	}
	k := p.planned[0]
	p.planned = p.planned[1:]
	if k < 0 {
		return broken
	}
	return k
}

// fault: the error that a planned number makes.
func fault(k int) api.Errno {
	switch k {
	case well:
		return api.OK
	case space:
		return api.ErrSpace
	}
	return api.ErrIO
}

// part: how many of n bytes an Append puts that fails as k says, where there is so much room (below 0: too much is used).
func part(k, n, room int) int {
	return max(0, min(k-space-1, n, room))
}
