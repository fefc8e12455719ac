// Package info tells whose word counts at a port: what it heard last, or what it has (layer 13: doc/13-info.md).
package info

import (
	"ford/api"
	"ford/vec"
)

// What a message is to a port.
const (
	Superior = iota
	Repeated
	Inferior
	NotDesignated
	Other
)

// better tells whether a vector is better than another one, by the first four parts.
func better(a, b api.Vec) bool {
	a.Rx, b.Rx = 0, 0
	return vec.Better(a, b)
}

// tells reports whether a message tells what a designated port has.
func tells(m api.Msg) bool {
	return m.Kind == api.Config || m.Kind == api.Rst && m.Role == api.RoleDesignated
}

// answers reports whether a message is one of a port that isn't designated.
func answers(m api.Msg) bool {
	if m.Kind != api.Rst {
		return false
	}
	return m.Role == api.RoleRoot || m.Role == api.RoleAlternate || m.Role == api.RoleBackup
}

// Class is what a port's message is to it.
func Class(p api.Port) int {
	m := p.Msg
	switch {
	case tells(m) && vec.Same(m.Vec, p.Vec) && m.Times == p.Times:
		return Repeated
	case tells(m) && vec.Superior(m.Vec, p.Vec):
		return Superior
	case tells(m):
		return Inferior
	case answers(m) && !better(m.Vec, p.Vec):
		return NotDesignated
	}
	return Other
}
