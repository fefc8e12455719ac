package samples

import (
	"slices"

	"ford/api"
)

// times are some that a bridge may have.
func times(d *Dice) api.Times {
	switch d.Upto(3) {
	case 0:
		return api.Times{Max: 6, Hello: 1, Delay: 4}
	case 1:
		return api.Times{Max: 40, Hello: 10, Delay: 30}
	}
	return api.Times{Max: 20, Hello: 2, Delay: 15}
}

// told are times that a message may tell: few ones, so that they are often like others.
func told(d *Dice) api.Times {
	return api.Times{Age: d.Among(0, 0, 1, 5, 19, 20), Max: d.Among(20, 20, 6), Hello: d.Among(2, 2, 3), Delay: 15}
}

// bridgeID is a bridge's number, of few, portID a port's: both with first parts that differ, too.
func bridgeID(d *Dice) uint64 { return uint64(d.Upto(2))<<48 | uint64(1+d.Upto(3)) }
func portID(d *Dice) uint16   { return uint16(d.Upto(2)<<12 + 1 + d.Upto(3)) }

// vector is one of few.
func vector(d *Dice) api.Vec {
	return api.Vec{Root: bridgeID(d), Cost: uint32(d.Upto(3)), Bridge: bridgeID(d), Port: portID(d), Rx: uint16(d.Upto(2))}
}

// like is v, or else one that is like it but for a part.
func like(d *Dice, v api.Vec) api.Vec {
	w := vector(d)
	switch d.Upto(6) {
	case 0:
		return w
	case 1:
		v.Cost = w.Cost
	case 2:
		v.Bridge = w.Bridge
	case 3:
		v.Port = w.Port
	case 4:
		v.Rx = w.Rx
	}
	return v
}

// shake sets each flag, or doesn't.
func shake(d *Dice, l ...*bool) {
	for _, f := range l {
		*f = d.Flip()
	}
}

// flags are a port's; most often those are set that let machines do something.
func flags(d *Dice) api.Flags {
	var f api.Flags
	shake(d, &f.Agree, &f.Agreed, &f.Disputed, &f.Forward, &f.Forwarding, &f.Learn, &f.Learning,
		&f.Mcheck, &f.NewInfo, &f.OperEdge, &f.Proposed, &f.Proposing,
		&f.RcvdBpdu, &f.RcvdMsg, &f.RcvdRst, &f.RcvdStp, &f.RcvdTc, &f.RcvdTcAck, &f.RcvdTcn,
		&f.ReRoot, &f.SendRst, &f.Sync, &f.Synced, &f.TcAck, &f.TcProp)
	f.Flush, f.Reselect, f.UpdtInfo = d.Once(4), d.Once(4), d.Once(4)
	f.Selected = !d.Once(4)
	if d.Once(3) {
		f.RcvdTc, f.RcvdTcAck, f.RcvdTcn, f.TcProp = false, false, false, false
	}
	return f
}

// clocks are a port's: values that conditions ask for, most often.
func clocks(d *Dice, t api.Times, hold int) api.Clocks {
	some := func() int {
		return d.Among(0, 0, 0, 1, api.Migrate, t.Hello, 2*t.Hello, t.Max, t.Delay, t.Delay, t.Max+t.Delay, 1000)
	}
	return api.Clocks{
		EdgeDelay: some(), Fd: some(), Hello: some(), Mdelay: some(), Rb: some(), RcvdInfo: some(), Rr: some(), Tc: some(),
		TxCount: d.Among(0, hold-1, hold-1, hold, hold+1),
	}
}

// states are those of a port's machines; seldom one that there isn't.
func states(d *Dice) api.States {
	odd := func(n int) int {
		if d.Once(40) {
			return d.Among(-1, n, 99)
		}
		return d.Upto(n)
	}
	return api.States{Rx: odd(2), Mig: odd(3), Edge: odd(2), Info: odd(3), Trans: odd(6), Pass: odd(3), Topo: odd(3)}
}

// role is a port's; seldom one that there isn't.
func role(d *Dice) int {
	if d.Once(40) {
		return d.Among(-1, 5, 99)
	}
	return d.Upto(api.RoleDesignated + 1)
}

// Msg is a message; seldom of a kind that there isn't.
func Msg(d *Dice) api.Msg {
	m := api.Msg{Kind: d.Among(api.Config, api.Tcn, api.Rst, api.Rst), Role: role(d), Vec: vector(d), Times: told(d)}
	shake(d, &m.Change, &m.Ack, &m.Proposal, &m.Agreement, &m.Learning, &m.Forwarding)
	if d.Once(40) {
		m.Kind = d.Among(-1, 3)
	}
	return m
}

// port is a port.
func port(d *Dice, t api.Times, hold int) api.Port {
	p := api.Port{ID: portID(d), Cost: uint32(d.Upto(3)), Enabled: !d.Once(3)}
	shake(d, &p.Shared, &p.Admin, &p.Auto)
	p.Clocks, p.States, p.Flags = clocks(d, t, hold), states(d), flags(d)
	p.Is, p.Role = d.Upto(4), role(d)
	p.Selected = p.Role
	if d.Once(3) {
		p.Selected = role(d)
	}
	p.Msg, p.Vec, p.Times = Msg(d), vector(d), told(d)
	p.Designated, p.DesTimes = like(d, p.Vec), p.Times
	p.Msg.Vec = like(d, p.Vec)
	if d.Flip() {
		p.Msg.Times = p.Times
	}
	if d.Once(3) {
		p.DesTimes = told(d)
	}
	return p
}

// Bridge is one that may be, of up to four ports, in whatever state.
func Bridge(d *Dice) api.Bridge {
	t, hold := times(d), 1+d.Upto(10)
	b := api.Bridge{ID: bridgeID(d), Rst: d.Flip(), Times: t, Hold: hold, Root: vector(d), RootT: told(d)}
	for range 1 + d.Upto(4) {
		b.Ports = append(b.Ports, port(d, t, hold))
	}
	b.RootPort = d.Upto(len(b.Ports)+1) - 1
	for range d.Upto(3) {
		b.Out = append(b.Out, api.Sent{Port: d.Upto(len(b.Ports)), Msg: Msg(d)})
		b.Flushed = append(b.Flushed, d.Upto(len(b.Ports)))
	}
	return b
}

// Copy is a bridge that shares nothing with b.
func Copy(b api.Bridge) api.Bridge {
	b.Ports, b.Out, b.Flushed = slices.Clone(b.Ports), slices.Clone(b.Out), slices.Clone(b.Flushed)
	return b
}

// Same tells whether two bridges are alike in all.
func Same(a, b api.Bridge) bool {
	return a.ID == b.ID && a.Rst == b.Rst && a.Times == b.Times && a.Hold == b.Hold &&
		a.Root == b.Root && a.RootPort == b.RootPort && a.RootT == b.RootT &&
		slices.Equal(a.Ports, b.Ports) && slices.Equal(a.Out, b.Out) && slices.Equal(a.Flushed, b.Flushed)
}
