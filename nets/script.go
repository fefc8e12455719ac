package nets

import (
	"ford/api"
	"ford/lan"
	"ford/llc"
	"ford/samples"
	"ford/sim"
)

// near is a number that most often is a place of so many, and seldom isn't.
func near(d *samples.Dice, many int) int {
	if d.Once(15) {
		return d.Among(-1, many, many+7)
	}
	return d.Upto(many)
}

// some is one of two.
func some(d *samples.Dice) int { return d.Upto(2) }

// tame has a message tell the net's times, but for its age.
func tame(m api.Msg, t api.Times) api.Msg {
	m.Times.Max, m.Times.Hello, m.Times.Delay = t.Max, t.Hello, t.Delay
	return m
}

// Bytes are a frame that may be injected: a message, of the net's times where it is to be a tame one, or none.
func Bytes(d *samples.Dice, t api.Times, isTame bool) []byte {
	m := samples.Msg(d)
	if isTame {
		m = tame(m, t)
	}
	f := llc.Wrap(uint64(d.Upto(99)), m)
	if len(f) > 0 && d.Once(3) {
		f = f[:d.Upto(len(f))]
	}
	if len(f) > 0 && d.Once(3) {
		// In the head alone, lest times are changed.
		f[d.Upto(min(len(f), 17))] ^= byte(1 + d.Upto(255))
	}
	return f
}

// Act is one that may be done to a net.
func Act(d *samples.Dice, n lan.Net, isTame bool) sim.Act {
	bridge, seg := near(d, len(n.Nodes)), near(d, len(n.Segs))
	port := near(d, 5)
	kind := d.Among(sim.Tick, sim.Drop, sim.Later, sim.Twice, sim.Link, sim.Version, sim.Check, sim.Inject, sim.Frame, -1, sim.Kinds)
	if d.Flip() {
		kind = sim.Deliver
	}
	switch kind {
	case sim.Drop, sim.Later, sim.Twice:
		return sim.Act{Kind: kind, A: near(d, 8)}
	case sim.Link:
		return sim.Act{Kind: kind, A: seg, B: d.Upto(3)}
	case sim.Version:
		return sim.Act{Kind: kind, A: bridge, B: some(d)}
	case sim.Check:
		return sim.Act{Kind: kind, A: bridge, B: port}
	case sim.Inject:
		return sim.Act{Kind: kind, A: bridge, B: port, Data: Bytes(d, n.Times, isTame)}
	case sim.Frame:
		return sim.Act{Kind: kind, A: seg, B: d.Upto(9), C: d.Upto(9)}
	}
	return sim.Act{Kind: kind}
}

// Script are so many acts.
func Script(d *samples.Dice, n lan.Net, many int, isTame bool) []sim.Act {
	var acts []sim.Act
	for range many {
		acts = append(acts, Act(d, n, isTame))
	}
	return acts
}
