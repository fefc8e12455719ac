package info_test

import (
	"testing"

	"ford/api"
	"ford/info"
	"ford/samples"
)

// less holds two vectors against each other, by their first four parts.
func less(a, b api.Vec) bool {
	for _, x := range [][2]uint64{{a.Root, b.Root}, {uint64(a.Cost), uint64(b.Cost)}, {a.Bridge, b.Bridge}, {uint64(a.Port), uint64(b.Port)}} {
		if x[0] != x[1] {
			return x[0] < x[1]
		}
	}
	return false
}

// class is what a port's message is to it.
func class(p api.Port) int {
	m, v := p.Msg, p.Vec
	like := !less(m.Vec, v) && !less(v, m.Vec)
	teller := m.Vec.Bridge<<16 == v.Bridge<<16 && m.Vec.Port&0xfff == v.Port&0xfff
	if m.Kind == api.Config || (m.Kind == api.Rst && m.Role == api.RoleDesignated) {
		if like && m.Times == p.Times {
			return info.Repeated
		}
		if less(m.Vec, v) || teller {
			return info.Superior
		}
		return info.Inferior
	}
	if m.Kind == api.Rst && m.Role >= api.RoleAlternate && m.Role <= api.RoleRoot && !less(m.Vec, v) {
		return info.NotDesignated
	}
	return info.Other
}

// proposal, agreement and changes note these.
func proposal(p *api.Port) {
	if p.Msg.Kind == api.Rst && p.Msg.Role == api.RoleDesignated && p.Msg.Proposal {
		p.Flags.Proposed = true
	}
}

func agreement(b *api.Bridge, p *api.Port) {
	if b.Rst && !p.Shared && p.Msg.Kind == api.Rst && p.Msg.Agreement {
		p.Flags.Agreed = true
		p.Flags.Proposing = false
	} else {
		p.Flags.Agreed = false
	}
}

func changes(p *api.Port) {
	if p.Msg.Change {
		p.Flags.RcvdTc = true
	}
	if p.Msg.Ack {
		p.Flags.RcvdTcAck = true
	}
}

// kept is for how long a port's message is.
func kept(p *api.Port) int {
	if t := p.Msg.Times; t.Age+1 <= t.Max {
		return 3 * t.Hello
	}
	return 0
}

// disable is what the first two rows do.
func disable(p *api.Port) {
	f := &p.Flags
	f.RcvdMsg, f.Proposing, f.Proposed, f.Agree, f.Agreed = false, false, false, false, false
	p.Clocks.RcvdInfo = 0
	p.Is = api.IsDisabled
	f.Reselect = true
	f.Selected = false
	p.States.Info = api.InfoDisabled
}

// age is what rows do that come to InfoAged.
func age(p *api.Port) {
	p.Is = api.IsAged
	p.Flags.Reselect = true
	p.Flags.Selected = false
	p.States.Info = api.InfoAged
}

// update is an update.
func update(p *api.Port) {
	f := &p.Flags
	f.Proposing, f.Proposed = false, false
	if p.Is != api.IsMine || less(p.Vec, p.Designated) {
		f.Agreed = false
	}
	if !f.Agreed {
		f.Synced = false
	}
	p.Vec, p.Times = p.Designated, p.DesTimes
	f.UpdtInfo = false
	p.Is = api.IsMine
	f.NewInfo = true
	p.States.Info = api.InfoCurrent
}

// superior is what is done of a superior message.
func superior(b *api.Bridge, p *api.Port) {
	f := &p.Flags
	f.Agreed, f.Proposing = false, false
	proposal(p)
	changes(p)
	if p.Is != api.IsReceived || less(p.Vec, p.Msg.Vec) {
		f.Agree = false
	}
	agreement(b, p)
	if !f.Agreed {
		f.Synced = false
	}
	p.Vec, p.Times = p.Msg.Vec, p.Msg.Times
	p.Clocks.RcvdInfo = kept(p)
	p.Is = api.IsReceived
	f.Reselect = true
	f.Selected = false
}

// take is what the last row does, by classes; and which one that is.
func take(b *api.Bridge, p *api.Port) int {
	f, c := &p.Flags, class(*p)
	switch c {
	case info.Superior:
		superior(b, p)
	case info.Repeated:
		proposal(p)
		changes(p)
		agreement(b, p)
		p.Clocks.RcvdInfo = kept(p)
	case info.Inferior:
		if p.Msg.Kind == api.Rst && p.Msg.Learning {
			f.Disputed, f.Agreed = true, false
		}
	case info.NotDesignated:
		agreement(b, p)
		changes(p)
	case info.Other:
		if p.Msg.Kind == api.Tcn {
			f.RcvdTcn = true
		}
	}
	f.RcvdMsg = false
	return c
}

// rows does what the first row says that holds, and tells which one; of the last one which class, too.
func rows(b *api.Bridge, i int) int {
	p := &b.Ports[i]
	f, s := &p.Flags, p.States.Info
	switch {
	case !p.Enabled && p.Is != api.IsDisabled:
		disable(p)
		return 1
	case s == api.InfoDisabled && f.RcvdMsg:
		disable(p)
		return 2
	case s == api.InfoDisabled && p.Enabled:
		age(p)
		return 3
	case s == api.InfoAged && f.Selected && f.UpdtInfo:
		update(p)
		return 4
	case s == api.InfoCurrent && f.Selected && f.UpdtInfo:
		update(p)
		return 5
	case s == api.InfoCurrent && p.Is == api.IsReceived && p.Clocks.RcvdInfo == 0 && !f.UpdtInfo && !f.RcvdMsg:
		age(p)
		return 6
	case s == api.InfoCurrent && f.RcvdMsg && !f.UpdtInfo:
		return 7 + take(b, p)
	}
	return 0
}

// P13.2: a step does what its rows say.
func TestRows(t *testing.T) {
	if f, wrong := samples.Against(info.Step, rows, 11, 100000); wrong {
		t.Errorf("%+v", f)
	}
}

// P13.1: what messages are to ports of all kinds.
func TestClassSamples(t *testing.T) {
	d, met := samples.New(131), map[int]int{}
	for range 30000 {
		p := samples.Bridge(d).Ports[0]
		got, want := info.Class(p), class(p)
		if got != want {
			t.Fatalf("%+v: %d, not %d", p, got, want)
		}
		met[want]++
	}
	for c := range 5 {
		if met[c] < 100 {
			t.Errorf("class %d is hardly met", c)
		}
	}
}

// P13.1: each class, and where it ends.
func TestClass(t *testing.T) {
	if info.Superior != 0 || info.Repeated != 1 || info.Inferior != 2 || info.NotDesignated != 3 || info.Other != 4 {
		t.Error("numbers of the classes")
	}
	v := api.Vec{Root: 3, Cost: 5, Bridge: 7, Port: 0x8001, Rx: 1}
	tm := api.Times{Age: 1, Max: 20, Hello: 2, Delay: 15}
	for _, c := range []struct {
		name string
		with func(m *api.Msg)
		want int
	}{
		{"like", func(m *api.Msg) {}, info.Repeated},
		{"another Rx", func(m *api.Msg) { m.Vec.Rx = 9 }, info.Repeated},
		{"Rst", func(m *api.Msg) { m.Kind, m.Role = api.Rst, api.RoleDesignated }, info.Repeated},
		{"a Config of any role", func(m *api.Msg) { m.Role = api.RoleRoot }, info.Repeated},
		{"other Age", func(m *api.Msg) { m.Times.Age++ }, info.Superior},
		{"other Max", func(m *api.Msg) { m.Times.Max++ }, info.Superior},
		{"other Hello", func(m *api.Msg) { m.Times.Hello++ }, info.Superior},
		{"other Delay", func(m *api.Msg) { m.Times.Delay++ }, info.Superior},
		{"worse, same teller", func(m *api.Msg) { m.Vec.Root = 9 }, info.Superior},
		{"better", func(m *api.Msg) { m.Vec = api.Vec{Root: 3, Cost: 4, Bridge: 99} }, info.Superior},
		{"worse, another teller", func(m *api.Msg) { m.Vec.Bridge = 8 }, info.Inferior},
		{"worse, another teller's Rst", func(m *api.Msg) { m.Kind, m.Role, m.Vec.Bridge = api.Rst, api.RoleDesignated, 8 }, info.Inferior},
		{"Rst of a root", func(m *api.Msg) { m.Kind, m.Role = api.Rst, api.RoleRoot }, info.NotDesignated},
		{"Rst of an alternate", func(m *api.Msg) { m.Kind, m.Role, m.Vec.Cost = api.Rst, api.RoleAlternate, 6 }, info.NotDesignated},
		{"Rst of a backup", func(m *api.Msg) { m.Kind, m.Role, m.Vec.Rx = api.Rst, api.RoleBackup, 0 }, info.NotDesignated},
		{"Rst of a root that is better", func(m *api.Msg) { m.Kind, m.Role, m.Vec.Cost = api.Rst, api.RoleRoot, 4 }, info.Other},
		{"Rst of nobody", func(m *api.Msg) { m.Kind, m.Role = api.Rst, api.RoleDisabled }, info.Other},
		{"Rst of a role that there isn't", func(m *api.Msg) { m.Kind, m.Role = api.Rst, 5 }, info.Other},
		{"Tcn", func(m *api.Msg) { m.Kind = api.Tcn }, info.Other},
		{"no kind", func(m *api.Msg) { m.Kind = 3 }, info.Other},
	} {
		p := api.Port{Vec: v, Times: tm, Msg: api.Msg{Kind: api.Config, Role: api.RoleDesignated, Vec: v, Times: tm}}
		c.with(&p.Msg)
		if got := info.Class(p); got != c.want {
			t.Errorf("%s: %d, not %d", c.name, got, c.want)
		}
	}
}

// one is a bridge of a port that has its own word, and a message in hand.
func one(m api.Msg) api.Bridge {
	v := api.Vec{Root: 5, Bridge: 5, Port: 0x8001}
	p := api.Port{
		ID: 0x8001, Enabled: true, Is: api.IsMine, Vec: v, Designated: v, Msg: m,
		States: api.States{Info: api.InfoCurrent}, Flags: api.Flags{Selected: true, RcvdMsg: true, Agree: true, Agreed: true, Synced: true, Proposing: true},
	}
	return api.Bridge{ID: 5, Rst: true, Times: api.Times{Max: 20, Hello: 2, Delay: 15}, Hold: 6, RootPort: -1, Ports: []api.Port{p}}
}

// P13.2: the example: a better word is taken over, and roles are selected anew.
func TestExample(t *testing.T) {
	m := api.Msg{Kind: api.Config, Role: api.RoleDesignated, Vec: api.Vec{Root: 3, Bridge: 3, Port: 0x8002}, Times: api.Times{Age: 0, Max: 20, Hello: 2, Delay: 15}}
	b := one(m)
	p := &b.Ports[0]
	if !info.Step(&b, 0) || p.Vec != m.Vec || p.Times != m.Times || p.Clocks.RcvdInfo != 6 || p.Is != api.IsReceived {
		t.Errorf("%+v", p)
	}
	if p.Flags != (api.Flags{Reselect: true}) {
		t.Errorf("%+v", p.Flags)
	}
}

// P13.2: on a shared segment, and of a bridge that speaks no Rst, nobody agrees.
func TestAgreement(t *testing.T) {
	for _, c := range []struct{ rst, shared, want bool }{{true, false, true}, {true, true, false}, {false, false, false}} {
		b := one(api.Msg{Kind: api.Rst, Role: api.RoleRoot, Agreement: true, Vec: api.Vec{Root: 5, Bridge: 9, Port: 0x8002}})
		b.Rst, b.Ports[0].Shared = c.rst, c.shared
		info.Step(&b, 0)
		if f := b.Ports[0].Flags; f.Agreed != c.want || f.Proposing == c.want || f.RcvdMsg {
			t.Errorf("%+v: %+v", c, f)
		}
	}
}

// P13.3: what was heard counts as long as it is kept, and no longer; with a message in hand it isn't forgotten.
func TestKept(t *testing.T) {
	b := one(api.Msg{})
	p := &b.Ports[0]
	p.Flags.RcvdMsg, p.Is, p.Clocks.RcvdInfo = false, api.IsReceived, 1
	if info.Step(&b, 0) {
		t.Error("it is kept yet")
	}
	p.Clocks.RcvdInfo = 0
	p.Flags.UpdtInfo, p.Flags.Selected = true, false
	if info.Step(&b, 0) {
		t.Error("there is an update to do")
	}
	p.Flags.UpdtInfo = false
	if !info.Step(&b, 0) || p.Is != api.IsAged || p.States.Info != api.InfoAged || !p.Flags.Reselect {
		t.Errorf("%+v", p)
	}
}

// P13.3: behind a step of a port that has a message in hand, and nothing to update, it has none.
func TestInHand(t *testing.T) {
	d := samples.New(133)
	for range 20000 {
		b := samples.Bridge(d)
		p := &b.Ports[0]
		p.Flags.RcvdMsg, p.Flags.UpdtInfo, p.States.Info = true, false, d.Among(api.InfoDisabled, api.InfoCurrent)
		if !info.Step(&b, 0) || p.Flags.RcvdMsg {
			t.Fatalf("%+v", p)
		}
	}
}
