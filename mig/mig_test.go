package mig_test

import (
	"testing"

	"ford/api"
	"ford/mig"
	"ford/samples"
)

// rows does what the first row says that holds, and tells which one.
func rows(b *api.Bridge, i int) int {
	p := &b.Ports[i]
	f := &p.Flags
	switch s := p.States.Mig; {
	case s == api.MigChecking && p.Clocks.Mdelay == 0:
		f.RcvdRst = false
		f.RcvdStp = false
		p.States.Mig = api.MigSensing
		return 1
	case s == api.MigChecking && p.Clocks.Mdelay != 3 && !p.Enabled:
		f.Mcheck = false
		f.SendRst = b.Rst
		p.Clocks.Mdelay = 3
		return 2
	case s == api.MigSensing && (!p.Enabled || f.Mcheck || (b.Rst && f.RcvdRst && !f.SendRst)):
		f.Mcheck = false
		f.SendRst = b.Rst
		p.Clocks.Mdelay = 3
		p.States.Mig = api.MigChecking
		return 3
	case s == api.MigSensing && f.SendRst && f.RcvdStp:
		f.SendRst = false
		p.Clocks.Mdelay = 3
		p.States.Mig = api.MigSelecting
		return 4
	case s == api.MigSelecting && (p.Clocks.Mdelay == 0 || !p.Enabled || f.Mcheck):
		f.RcvdRst = false
		f.RcvdStp = false
		p.States.Mig = api.MigSensing
		return 5
	}
	return 0
}

// P10.1, P10.2: a step does what its rows say.
func TestRows(t *testing.T) {
	if f, wrong := samples.Against(mig.Step, rows, 5, 20000); wrong {
		t.Errorf("%+v", f)
	}
}

// one is a bridge that speaks Rst, of one port, that is up.
func one(state int, f api.Flags, mdelay int) api.Bridge {
	p := api.Port{Enabled: true, States: api.States{Mig: state}, Flags: f, Clocks: api.Clocks{Mdelay: mdelay}}
	return api.Bridge{ID: 5, Rst: true, Times: api.Times{Max: 20, Hello: 2, Delay: 15}, Hold: 6, RootPort: -1, Ports: []api.Port{p}}
}

// P10.2: the example, and what follows: the elder protocol is heard, spoken, and after a while given up when Rst is heard.
func TestExample(t *testing.T) {
	b := one(api.MigSensing, api.Flags{SendRst: true, RcvdStp: true}, 0)
	p := &b.Ports[0]
	if !mig.Step(&b, 0) || p.Flags != (api.Flags{RcvdStp: true}) || p.Clocks.Mdelay != 3 || p.States.Mig != api.MigSelecting {
		t.Fatalf("%+v", p)
	}
	p.Flags.RcvdRst = true
	if mig.Step(&b, 0) {
		t.Error("no while")
	}
	p.Clocks.Mdelay = 0
	if !mig.Step(&b, 0) || p.States.Mig != api.MigSensing || p.Flags != (api.Flags{}) {
		t.Errorf("%+v", p)
	}
	p.Flags.RcvdRst = true
	if !mig.Step(&b, 0) || p.States.Mig != api.MigChecking || !p.Flags.SendRst || p.Clocks.Mdelay != 3 {
		t.Errorf("%+v", p)
	}
}

// P10.3: behind three steps there is no fourth one; an elder bridge's port never begins with Rst.
func TestRest(t *testing.T) {
	d := samples.New(10)
	for range 5000 {
		b := samples.Bridge(d)
		spoke := b.Ports[0].Flags.SendRst
		for range 3 {
			mig.Step(&b, 0)
		}
		if mig.Step(&b, 0) {
			t.Fatalf("%+v steps a fourth time", b.Ports[0])
		}
		if !b.Rst && !spoke && b.Ports[0].Flags.SendRst {
			t.Fatalf("%+v begins with Rst", b.Ports[0])
		}
	}
}
