package lan

import "ford/relay"

// seenMost is how often a frame is seen at most.
const seenMost = 1000

// sight is a segment on which a frame is seen, and the place that it came from.
type sight struct {
	seg  int
	from Place
}

// onward is where a frame is seen next that comes to a place.
func (l *Lan) onward(p Place, src, dst uint64) []sight {
	n := &l.nodes[p.Bridge]
	var next []sight
	for _, port := range relay.Out(n.Bridge, n.Fdb, p.Port, src, dst) {
		if seg := n.segs[port]; l.Up(seg) {
			next = append(next, sight{seg, Place{p.Bridge, port}})
		}
	}
	return next
}

// Frame is how often a frame is seen on each segment that a station sends on one of them.
func (l *Lan) Frame(seg int, src, dst uint64) []int {
	if !l.Up(seg) {
		return nil
	}
	seen := make([]int, len(l.up))
	seen[seg] = 1
	// No place is -1, -1: from the station it goes on at all places.
	all := []sight{{seg, Place{-1, -1}}}
	for k := 0; k < len(all); k++ {
		for _, p := range l.net.Segs[all[k].seg] {
			if p == all[k].from {
				continue
			}
			for _, next := range l.onward(p, src, dst) {
				all = append(all, next)
				seen[next.seg]++
				if len(all) == seenMost {
					return seen
				}
			}
		}
	}
	return seen
}
