package trans

import (
	"ford/api"
	"ford/clock"
)

// to tells whether a port is to come to another role, that is this one.
func (p place) to(role int) bool { return p.Selected == role && p.Role != role }

func (p place) toDisabled() bool   { return p.to(api.RoleDisabled) }
func (p place) toRoot() bool       { return p.to(api.RoleRoot) }
func (p place) toDesignated() bool { return p.to(api.RoleDesignated) }
func (p place) toBlocked() bool    { return p.to(api.RoleAlternate) || p.to(api.RoleBackup) }

// take takes the new role on.
func (p place) take() { p.Role = p.Selected }

// takeRoot takes a root's on.
func (p place) takeRoot() {
	p.take()
	p.rememberRoot()
}

// stop takes one on in which nothing goes through the port.
func (p place) stop() {
	p.Flags.Learn, p.Flags.Forward = false, false
	p.take()
}

// forwardDelay is for how long the port waits ahead of going on.
func (p place) forwardDelay() int { return clock.Forward(*p.b, p.i) }

// still tells whether nothing goes through the port.
func (p place) still() bool { return !p.Flags.Learning && !p.Flags.Forwarding }

// settle has a port that nothing goes through be in step with all that a root asks for.
func (p place) settle(fd int) {
	f, c := &p.Flags, &p.Clocks
	c.Fd, c.Rr = fd, 0
	f.Synced, f.Sync, f.ReRoot = true, false, false
}

// unsettled tells whether it isn't.
func (p place) unsettled(fd int) bool {
	return p.Clocks.Fd != fd || p.Flags.Sync || p.Flags.ReRoot || !p.Flags.Synced
}

func (p place) disable()         { p.settle(p.b.Times.Max) }
func (p place) undisabled() bool { return p.unsettled(p.b.Times.Max) }
func (p place) block()           { p.settle(p.forwardDelay()) }
func (p place) unblocked() bool  { return p.unsettled(p.forwardDelay()) }

// backsUp tells whether a backup port has to note that it is one; backUp notes it, for a while.
func (p place) backsUp() bool { return p.Role == api.RoleBackup && p.Clocks.Rb != 2*p.b.Times.Hello }
func (p place) backUp()       { p.Clocks.Rb = 2 * p.b.Times.Hello }

// asked tells whether it was proposed to go on, and the port has not agreed.
func (p place) asked() bool { return p.Flags.Proposed && !p.Flags.Agree }

// askAll asks all ports to be in step.
func (p place) askAll() {
	for k := range p.b.Ports {
		p.b.Ports[k].Flags.Sync = true
	}
	p.Flags.Proposed = false
}

// agrees tells whether the port can agree, or has, and is asked again.
func (p place) agrees() bool {
	f := &p.Flags
	return clock.AllSynced(*p.b) && !f.Agree || f.Proposed && f.Agree
}

// agree tells so.
func (p place) agree() {
	f := &p.Flags
	f.Proposed, f.Agree, f.NewInfo = false, true, true
}

// learn has the port begin to learn; forward has it forward.
func (p place) learn() {
	p.Flags.Learn = true
	p.Clocks.Fd = p.forwardDelay()
}

func (p place) forward() {
	p.Flags.Forward = true
	p.Clocks.Fd = 0
}

// rerooted notes that ports that were roots' lately don't stand in the way any more.
func (p place) rerooted() { p.Flags.ReRoot = false }
