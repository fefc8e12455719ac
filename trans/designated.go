package trans

import "ford/clock"

// proposes tells whether a designated port has to ask another bridge whether it may go on; propose asks.
func (p place) proposes() bool {
	f := &p.Flags
	return !f.Forward && !f.Agreed && !f.Proposing && !f.OperEdge
}

func (p place) propose() {
	p.Flags.Proposing, p.Flags.NewInfo = true, true
	p.Clocks.EdgeDelay = clock.EdgeDelay(*p.b, p.i)
}

// syncs tells whether a designated port has to note that it is in step; sync notes it.
func (p place) syncs() bool {
	f := &p.Flags
	if f.Synced {
		return f.Sync
	}
	return p.still() || f.Agreed || f.OperEdge
}

func (p place) sync() {
	p.Clocks.Rr = 0
	p.Flags.Synced, p.Flags.Sync = true, false
}

// waited tells whether it is long enough ago that the port was a root's.
func (p place) waited() bool { return p.Flags.ReRoot && p.Clocks.Rr == 0 }

// retires tells whether a designated port has to begin anew; retire has it do so.
func (p place) retires() bool {
	f := &p.Flags
	why := f.Sync && !f.Synced || f.ReRoot && p.Clocks.Rr != 0 || f.Disputed
	return (f.Learn || f.Forward) && !f.OperEdge && why
}

func (p place) retire() {
	f := &p.Flags
	f.Learn, f.Forward, f.Disputed = false, false, false
	p.Clocks.Fd = p.forwardDelay()
}

// designatedMay tells whether a designated port may go on.
func (p place) designatedMay() bool {
	f, c := &p.Flags, &p.Clocks
	return (c.Fd == 0 || f.Agreed || f.OperEdge) && (!f.ReRoot || c.Rr == 0) && !f.Sync
}

func (p place) designatedLearns() bool { return p.designatedMay() && !p.Flags.Learn }
func (p place) designatedForwards() bool {
	return p.designatedMay() && p.Flags.Learn && !p.Flags.Forward
}

// forwardDesignated has a designated port forward; who speaks Rst holds that for agreed then.
func (p place) forwardDesignated() {
	p.forward()
	p.Flags.Agreed = p.Flags.SendRst
}
