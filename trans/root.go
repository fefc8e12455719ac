package trans

import "ford/clock"

// agreeAsRoot has a root port agree: all others are in step.
func (p place) agreeAsRoot() {
	p.agree()
	p.Flags.Sync = false
}

// rerootsAll tells whether the new root port has to have the others make way; rerootAll asks them to.
func (p place) rerootsAll() bool { return !p.Flags.Forward && !p.Flags.ReRoot }

func (p place) rerootAll() {
	for k := range p.b.Ports {
		p.b.Ports[k].Flags.ReRoot = true
	}
}

// rootMay tells whether a root port may go on: in time, or when no other one was a root's lately.
func (p place) rootMay() bool {
	return p.Clocks.Fd == 0 || p.b.Rst && clock.ReRooted(*p.b, p.i) && p.Clocks.Rb == 0
}

func (p place) rootLearns() bool   { return p.rootMay() && !p.Flags.Learn }
func (p place) rootForwards() bool { return p.rootMay() && p.Flags.Learn && !p.Flags.Forward }
func (p place) isRerooted() bool   { return p.Flags.ReRoot && p.Flags.Forward }

// rootForgotten tells whether time ran on since it was noted that this port is the root's; rememberRoot notes it.
func (p place) rootForgotten() bool { return p.Clocks.Rr != p.b.Times.Delay }
func (p place) rememberRoot()       { p.Clocks.Rr = p.b.Times.Delay }
