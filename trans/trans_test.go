package trans_test

import (
	"testing"

	"ford/api"
	"ford/samples"
	"ford/trans"
)

// all sets a flag of all ports.
func all(b *api.Bridge, flag func(f *api.Flags) *bool) {
	for k := range b.Ports {
		*flag(&b.Ports[k].Flags) = true
	}
}

func sync(f *api.Flags) *bool   { return &f.Sync }
func reRoot(f *api.Flags) *bool { return &f.ReRoot }

// allSynced tells whether all ports are in step.
func allSynced(b *api.Bridge) bool {
	for _, p := range b.Ports {
		if !p.Flags.Selected || p.Role != p.Selected || (p.Role != api.RoleRoot && !p.Flags.Synced) {
			return false
		}
	}
	return true
}

// forward is chapter 8's Forward.
func forward(b *api.Bridge, p *api.Port) int {
	if p.Flags.SendRst {
		return b.Times.Hello
	}
	return b.Times.Delay
}

// settled is what comes to TransDisabled, or to TransAlternate.
func settled(p *api.Port, fd, state int) {
	p.Clocks.Fd, p.Clocks.Rr = fd, 0
	p.Flags.Synced, p.Flags.Sync, p.Flags.ReRoot = true, false, false
	p.States.Trans = state
}

// unsettled is whether that is to be done again.
func unsettled(p *api.Port, fd int) bool {
	return p.Clocks.Fd != fd || p.Flags.Sync || p.Flags.ReRoot || !p.Flags.Synced
}

// roles are the rows of all states, 1 to 4.
func roles(b *api.Bridge, p *api.Port) int {
	role, was := p.Selected, p.Role
	if role == was {
		return 0
	}
	switch role {
	case api.RoleDisabled:
		p.Flags.Learn, p.Flags.Forward, p.Role, p.States.Trans = false, false, role, api.TransDisable
		return 1
	case api.RoleRoot:
		p.Role, p.Clocks.Rr, p.States.Trans = role, b.Times.Delay, api.TransRoot
		return 2
	case api.RoleDesignated:
		p.Role, p.States.Trans = role, api.TransDesignated
		return 3
	case api.RoleAlternate, api.RoleBackup:
		p.Flags.Learn, p.Flags.Forward, p.Role, p.States.Trans = false, false, role, api.TransBlock
		return 4
	}
	return 0
}

// blocked are the rows of the states in which nothing goes through, 5 to 11.
func blocked(b *api.Bridge, p *api.Port) int {
	f := &p.Flags
	still := !f.Learning && !f.Forwarding
	switch s := p.States.Trans; {
	case s == api.TransDisable && still:
		settled(p, b.Times.Max, api.TransDisabled)
		return 5
	case s == api.TransDisabled && unsettled(p, b.Times.Max):
		settled(p, b.Times.Max, api.TransDisabled)
		return 6
	case s == api.TransBlock && still:
		settled(p, forward(b, p), api.TransAlternate)
		return 7
	case s == api.TransAlternate && f.Proposed && !f.Agree:
		all(b, sync)
		f.Proposed = false
		return 8
	case s == api.TransAlternate && ((allSynced(b) && !f.Agree) || (f.Proposed && f.Agree)):
		f.Proposed, f.Agree, f.NewInfo = false, true, true
		return 9
	case s == api.TransAlternate && p.Role == api.RoleBackup && p.Clocks.Rb != 2*b.Times.Hello:
		p.Clocks.Rb = 2 * b.Times.Hello
		return 10
	case s == api.TransAlternate && unsettled(p, forward(b, p)):
		settled(p, forward(b, p), api.TransAlternate)
		return 11
	}
	return 0
}

// root are the rows of TransRoot, 12 to 18.
func root(b *api.Bridge, i int) int {
	p := &b.Ports[i]
	f := &p.Flags
	others := true
	for k, q := range b.Ports {
		others = others && (k == i || q.Clocks.Rr == 0)
	}
	may := p.Clocks.Fd == 0 || (b.Rst && others && p.Clocks.Rb == 0)
	switch {
	case f.Proposed && !f.Agree:
		all(b, sync)
		f.Proposed = false
		return 12
	case (allSynced(b) && !f.Agree) || (f.Proposed && f.Agree):
		f.Proposed, f.Sync, f.Agree, f.NewInfo = false, false, true, true
		return 13
	case !f.Forward && !f.ReRoot:
		all(b, reRoot)
		return 14
	case may && !f.Learn:
		p.Clocks.Fd = forward(b, p)
		f.Learn = true
		return 15
	case may && f.Learn && !f.Forward:
		p.Clocks.Fd = 0
		f.Forward = true
		return 16
	case f.ReRoot && f.Forward:
		f.ReRoot = false
		return 17
	case p.Clocks.Rr != b.Times.Delay:
		p.Clocks.Rr = b.Times.Delay
		return 18
	}
	return 0
}

// designated are the rows of TransDesignated, 19 to 24.
func designated(b *api.Bridge, p *api.Port) int {
	f := &p.Flags
	may := (p.Clocks.Fd == 0 || f.Agreed || f.OperEdge) && (!f.ReRoot || p.Clocks.Rr == 0) && !f.Sync
	switch {
	case !f.Forward && !f.Agreed && !f.Proposing && !f.OperEdge:
		f.Proposing, f.NewInfo = true, true
		p.Clocks.EdgeDelay = 3
		if p.Shared {
			p.Clocks.EdgeDelay = b.Times.Max
		}
		return 19
	case !f.Synced && !f.Learning && !f.Forwarding, !f.Synced && f.Agreed, !f.Synced && f.OperEdge, f.Synced && f.Sync:
		p.Clocks.Rr = 0
		f.Synced, f.Sync = true, false
		return 20
	case f.ReRoot && p.Clocks.Rr == 0:
		f.ReRoot = false
		return 21
	case (f.Learn || f.Forward) && !f.OperEdge && ((f.Sync && !f.Synced) || (f.ReRoot && p.Clocks.Rr != 0) || f.Disputed):
		f.Learn, f.Forward, f.Disputed = false, false, false
		p.Clocks.Fd = forward(b, p)
		return 22
	case may && !f.Learn:
		f.Learn = true
		p.Clocks.Fd = forward(b, p)
		return 23
	case may && f.Learn && !f.Forward:
		f.Forward = true
		p.Clocks.Fd = 0
		f.Agreed = f.SendRst
		return 24
	}
	return 0
}

// rows does what the first row says that holds, and tells which one.
func rows(b *api.Bridge, i int) int {
	p := &b.Ports[i]
	if !p.Flags.Selected || p.Flags.UpdtInfo {
		return 0
	}
	if row := roles(b, p); row > 0 {
		return row
	}
	switch p.States.Trans {
	case api.TransRoot:
		return root(b, i)
	case api.TransDesignated:
		return designated(b, p)
	}
	return blocked(b, p)
}

// P15.1, P15.2: a step does what its rows say.
func TestRows(t *testing.T) {
	if f, wrong := samples.Against(trans.Step, rows, 24, 300000); wrong {
		t.Errorf("%+v", f)
	}
}

// one is a bridge of two ports, of which the first one is to have a role.
func one(state, role, selected int) api.Bridge {
	p := api.Port{Enabled: true, Role: role, Selected: selected, States: api.States{Trans: state}, Flags: api.Flags{Selected: true}}
	return api.Bridge{ID: 5, Rst: true, Times: api.Times{Max: 20, Hello: 2, Delay: 15}, Hold: 6, RootPort: -1, Ports: []api.Port{p, {}}}
}

// P15.2: the example; and a port that has not been selected, or is to be updated, keeps its role.
func TestExample(t *testing.T) {
	for _, c := range []struct{ selected, update, want bool }{{true, false, true}, {false, false, false}, {true, true, false}} {
		b := one(api.TransRoot, api.RoleRoot, api.RoleAlternate)
		p := &b.Ports[0]
		p.Flags.Learn, p.Flags.Forward, p.Flags.Selected, p.Flags.UpdtInfo = true, true, c.selected, c.update
		want := samples.Copy(b)
		if c.want {
			q := &want.Ports[0]
			q.Flags.Learn, q.Flags.Forward, q.Role, q.States.Trans = false, false, api.RoleAlternate, api.TransBlock
		}
		if got := trans.Step(&b, 0); got != c.want || !samples.Same(b, want) {
			t.Errorf("%+v: %v %+v", c, got, b.Ports[0])
		}
	}
}

// P15.2: a root port of an Rst bridge goes on at once, when no other one was a root's; else after its time.
func TestRootMay(t *testing.T) {
	for _, c := range []struct {
		name       string
		rst        bool
		fd, rr, rb int
		want       bool
	}{
		{"at once", true, 15, 0, 0, true},
		{"another root lately", true, 15, 3, 0, false},
		{"a backup lately", true, 15, 0, 1, false},
		{"elder", false, 15, 0, 0, false},
		{"elder, after its time", false, 0, 0, 0, true},
		{"another root lately, after its time", true, 0, 3, 1, true},
	} {
		b := one(api.TransRoot, api.RoleRoot, api.RoleRoot)
		b.Rst = c.rst
		p := &b.Ports[0]
		p.Flags.Agree, p.Flags.ReRoot = true, true
		p.Clocks = api.Clocks{Fd: c.fd, Rr: 15, Rb: c.rb}
		b.Ports[1].Clocks.Rr = c.rr
		if got := trans.Step(&b, 0); got != c.want || p.Flags.Learn != c.want {
			t.Errorf("%s: %v %+v", c.name, got, p)
		}
	}
}

// P15.3: a root asks all others to sync ahead of agreeing.
func TestSyncFirst(t *testing.T) {
	b := one(api.TransRoot, api.RoleRoot, api.RoleRoot)
	b.Ports[0].Flags.Proposed = true
	b.Ports[1] = api.Port{Role: api.RoleDesignated, Selected: api.RoleDesignated, Flags: api.Flags{Selected: true}}
	if !trans.Step(&b, 0) || b.Ports[0].Flags.Agree || !b.Ports[1].Flags.Sync {
		t.Errorf("%+v", b.Ports)
	}
	for trans.Step(&b, 0) {
	}
	if b.Ports[0].Flags.Agree {
		t.Error("it agrees, though one isn't in step")
	}
	b.Ports[1].Flags.Synced = true
	for trans.Step(&b, 0) {
	}
	if !b.Ports[0].Flags.Agree {
		t.Error("it doesn't agree")
	}
}

// P15.3: behind as many steps as it takes, who isn't to forward, by its role, neither learns nor forwards.
func TestStill(t *testing.T) {
	d := samples.New(153)
	for range 5000 {
		b := samples.Bridge(d)
		p := &b.Ports[0]
		p.Flags.Selected, p.Flags.UpdtInfo = true, false
		if p.Role != api.RoleRoot && p.Role != api.RoleDesignated {
			p.Role = api.RoleRoot
		}
		p.Selected = d.Among(api.RoleDisabled, api.RoleAlternate, api.RoleBackup)
		for n := 0; trans.Step(&b, 0); n++ {
			if n > 20 {
				t.Fatalf("%+v goes on and on", b)
			}
			if p.Flags.Learn || p.Flags.Forward || p.Role != p.Selected {
				t.Fatalf("%+v", p)
			}
		}
	}
}
