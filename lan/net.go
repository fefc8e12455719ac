// Package lan has bridges' ports hang on segments, and delivers what they send there (layer 20: doc/20-lan.md).
package lan

import (
	"slices"

	"ford/api"
	"ford/bridge"
	"ford/fdb"
	"ford/ident"
)

// Place is a bridge's port.
type Place struct{ Bridge, Port int }

// Node is a bridge in a net.
type Node struct {
	ID    uint64
	Rst   bool
	Ports []bridge.Setup
}

// Net is bridges, and segments.
type Net struct {
	Times           api.Times
	Hold, Room, Age int
	Nodes           []Node
	Segs            [][]Place
}

// The ends of what a port costs; and how many places a segment has that isn't shared, at most.
const (
	costLeast, costMost = 1, 200000000
	linkMost            = 2
)

// rightPorts tells whether a bridge's ports cost what they may, and have numbers that are unlike.
func rightPorts(l []bridge.Setup) bool {
	nums := map[uint16]bool{}
	for _, s := range l {
		num := ident.Num(s.ID)
		if nums[num] || s.Cost < costLeast || s.Cost > costMost {
			return false
		}
		nums[num] = true
	}
	return true
}

// rightNodes tells whether all nodes could be as bridges, side by side.
func rightNodes(n Net) bool {
	addrs := map[uint64]bool{}
	for _, x := range n.Nodes {
		addr := ident.Addr(x.ID)
		_, ok := bridge.New(x.ID, x.Rst, n.Times, n.Hold, x.Ports)
		if !ok || addrs[addr] || !rightPorts(x.Ports) {
			return false
		}
		addrs[addr] = true
	}
	return true
}

// has tells whether there is such a place.
func (n Net) has(p Place) bool {
	return p.Bridge >= 0 && p.Bridge < len(n.Nodes) && p.Port >= 0 && p.Port < len(n.Nodes[p.Bridge].Ports)
}

// rightSegs tells whether each place on segments is one that there is, and stands there once.
func rightSegs(n Net) bool {
	places := map[Place]bool{}
	for _, p := range slices.Concat(n.Segs...) {
		if !n.has(p) || places[p] {
			return false
		}
		places[p] = true
	}
	return true
}

// Right tells whether a net may be.
func Right(n Net) bool {
	return len(n.Nodes) <= api.MaxBridges && fdb.New(n.Room, n.Age) != nil && rightNodes(n) && rightSegs(n)
}

// copied is a net that shares nothing with n, and in which those ports are Shared whose segments are.
func copied(n Net) Net {
	n.Nodes, n.Segs = slices.Clone(n.Nodes), slices.Clone(n.Segs)
	for i := range n.Nodes {
		ports := slices.Clone(n.Nodes[i].Ports)
		for k := range ports {
			ports[k].Shared = false
		}
		n.Nodes[i].Ports = ports
	}
	for i, seg := range n.Segs {
		n.Segs[i] = slices.Clone(seg)
		for _, p := range seg {
			n.Nodes[p.Bridge].Ports[p.Port].Shared = len(seg) > linkMost
		}
	}
	return n
}
