package clock_test

import (
	"math"
	"testing"

	"ford/api"
	"ford/clock"
	"ford/samples"
)

// two is a bridge that may be, of two ports.
func two() api.Bridge {
	return api.Bridge{ID: 5, Rst: true, Times: api.Times{Max: 20, Hello: 2, Delay: 15}, Hold: 6, RootPort: -1, Ports: make([]api.Port, 2)}
}

// timesOf are all times that a bridge has beside its own.
func timesOf(b *api.Bridge) []*api.Times {
	l := []*api.Times{&b.RootT}
	for i := range b.Ports {
		p := &b.Ports[i]
		l = append(l, &p.Times, &p.DesTimes, &p.Msg.Times)
	}
	return l
}

// clocksOf are a port's clocks.
func clocksOf(c *api.Clocks) []*int {
	return []*int{&c.EdgeDelay, &c.Fd, &c.Hello, &c.Mdelay, &c.Rb, &c.RcvdInfo, &c.Rr, &c.Tc, &c.TxCount}
}

// P8.1: which bridges may be, by what isn't a clock, nor told times.
func TestRight(t *testing.T) {
	for _, c := range []struct {
		name string
		with func(b *api.Bridge)
		want bool
	}{
		{"ordinary", func(b *api.Bridge) {}, true},
		{"no ports", func(b *api.Bridge) { b.Ports = nil }, true},
		{"most ports", func(b *api.Bridge) { b.Ports = make([]api.Port, api.MaxPorts) }, true},
		{"too many ports", func(b *api.Bridge) { b.Ports = make([]api.Port, api.MaxPorts+1) }, false},
		{"no times", func(b *api.Bridge) { b.Times = api.Times{} }, false},
		{"Max", func(b *api.Bridge) { b.Times.Max = 5 }, false},
		{"Hello", func(b *api.Bridge) { b.Times.Hello = 0 }, false},
		{"Delay", func(b *api.Bridge) { b.Times.Delay = 31 }, false},
		{"own age", func(b *api.Bridge) { b.Times.Age = 1 }, false},
		{"Hold 0", func(b *api.Bridge) { b.Hold = 0 }, false},
		{"Hold 1", func(b *api.Bridge) { b.Hold = 1 }, true},
		{"Hold 10", func(b *api.Bridge) { b.Hold = 10 }, true},
		{"Hold 11", func(b *api.Bridge) { b.Hold = 11 }, false},
		{"RootPort -2", func(b *api.Bridge) { b.RootPort = -2 }, false},
		{"RootPort 1", func(b *api.Bridge) { b.RootPort = 1 }, true},
		{"RootPort 2", func(b *api.Bridge) { b.RootPort = 2 }, false},
		{"RootPort 0 without ports", func(b *api.Bridge) { b.Ports, b.RootPort = nil, 0 }, false},
		{"RootPort 0 with ports", func(b *api.Bridge) { b.RootPort = 0 }, true},
		{"roles and states that there aren't", func(b *api.Bridge) {
			b.Ports[0].Role, b.Ports[1].Is, b.Ports[1].States.Info = 99, -1, 77
		}, true},
	} {
		b := two()
		c.with(&b)
		if got := clock.Right(b); got != c.want {
			t.Errorf("%s: %v", c.name, got)
		}
	}
	if clock.Right(api.Bridge{}) {
		t.Error("the zero bridge")
	}
	if clock.Most != 1000 {
		t.Error("Most")
	}
}

// P8.1: each clock of each port has its ends.
func TestRightClocks(t *testing.T) {
	for port := range 2 {
		for k := range 9 {
			for _, c := range []struct {
				n    int
				want bool
			}{{0, true}, {1000, true}, {1001, false}, {-1, false}, {math.MaxInt, false}, {math.MinInt, false}} {
				b := two()
				*clocksOf(&b.Ports[port].Clocks)[k] = c.n
				if got := clock.Right(b); got != c.want {
					t.Errorf("clock %d of port %d is %d: %v", k, port, c.n, got)
				}
			}
		}
	}
}

// P8.1: each field of all told times has its ends.
func TestRightTimes(t *testing.T) {
	for k := range 7 {
		for field := range 4 {
			for _, c := range []struct {
				n    int
				want bool
			}{{0, true}, {65535, true}, {65536, false}, {-1, false}, {math.MaxInt, false}, {math.MinInt, false}} {
				b := two()
				x := timesOf(&b)[k]
				*[]*int{&x.Age, &x.Max, &x.Hello, &x.Delay}[field] = c.n
				if got := clock.Right(b); got != c.want {
					t.Errorf("field %d of times %d is %d: %v", field, k, c.n, got)
				}
			}
		}
	}
}

// P8.1: a second takes one from each clock that has some, of all ports, and changes nothing else.
func TestTick(t *testing.T) {
	d := samples.New(8)
	for range 500 {
		b := samples.Bridge(d)
		want := samples.Copy(b)
		for i := range want.Ports {
			for _, c := range clocksOf(&want.Ports[i].Clocks) {
				*c = max(*c-1, 0)
			}
		}
		clock.Tick(&b)
		if !samples.Same(b, want) {
			t.Fatalf("%+v, not %+v", b, want)
		}
	}
	b := two()
	b.Ports[0].Clocks = api.Clocks{Fd: 3}
	clock.Tick(&b)
	if b.Ports[0].Clocks != (api.Clocks{Fd: 2}) {
		t.Error("the example")
	}
	b.Ports = nil
	clock.Tick(&b)
}

// P8.2: how long ports wait.
func TestWaits(t *testing.T) {
	b := two()
	b.Ports[0].Times, b.RootT = api.Times{Max: 7, Hello: 7, Delay: 7}, api.Times{Max: 7, Hello: 7, Delay: 7}
	b.Ports[0].Shared, b.Ports[1].Flags.SendRst = true, true
	if x, y := clock.EdgeDelay(b, 0), clock.EdgeDelay(b, 1); x != 20 || y != 3 {
		t.Error("EdgeDelay", x, y)
	}
	if x, y := clock.Forward(b, 0), clock.Forward(b, 1); x != 15 || y != 2 {
		t.Error("Forward", x, y)
	}
}

// P8.3: all are synced, if each one is Selected, and has its role, and is a root, or Synced.
func TestAllSynced(t *testing.T) {
	good := func(role int) api.Port {
		return api.Port{Role: role, Selected: role, Flags: api.Flags{Selected: true, Synced: true}}
	}
	for _, c := range []struct {
		name string
		with func(p *api.Port)
		want bool
	}{
		{"good", func(p *api.Port) {}, true},
		{"not Selected", func(p *api.Port) { p.Flags.Selected = false }, false},
		{"another role", func(p *api.Port) { p.Selected = api.RoleAlternate }, false},
		{"not Synced", func(p *api.Port) { p.Flags.Synced = false }, false},
		{"not Synced, to be root", func(p *api.Port) { p.Flags.Synced, p.Selected = false, api.RoleRoot }, false},
		{"root", func(p *api.Port) { *p = good(api.RoleRoot) }, true},
		{"root, not Synced", func(p *api.Port) { *p = good(api.RoleRoot); p.Flags.Synced = false }, true},
		{"root, not Selected", func(p *api.Port) { *p = good(api.RoleRoot); p.Flags.Selected = false }, false},
		{"root that is to be another", func(p *api.Port) { *p = good(api.RoleRoot); p.Selected = api.RoleDesignated }, false},
		{"disabled", func(p *api.Port) { *p = good(api.RoleDisabled) }, true},
	} {
		for port := range 3 {
			b := two()
			b.Ports = []api.Port{good(api.RoleDesignated), good(api.RoleDesignated), good(api.RoleDesignated)}
			c.with(&b.Ports[port])
			if got := clock.AllSynced(b); got != c.want {
				t.Errorf("%s at port %d: %v", c.name, port, got)
			}
		}
	}
	b := two()
	b.Ports = nil
	if !clock.AllSynced(b) {
		t.Error("no ports")
	}
}

// P8.3: a port is rerooted, if the clocks Rr of all others are 0.
func TestReRooted(t *testing.T) {
	for rr := range 8 {
		b := two()
		b.Ports = make([]api.Port, 3)
		for i := range b.Ports {
			b.Ports[i].Clocks = api.Clocks{EdgeDelay: 1, Fd: 1, Hello: 1, Mdelay: 1, Rb: 1, RcvdInfo: 1, Rr: rr >> i & 1, Tc: 1, TxCount: 1}
		}
		for i := range b.Ports {
			if got := clock.ReRooted(b, i); got != (rr&^(1<<i) == 0) {
				t.Errorf("clocks %03b, port %d: %v", rr, i, got)
			}
		}
	}
	b := two()
	b.Ports = b.Ports[:1]
	b.Ports[0].Clocks.Rr = 5
	if !clock.ReRooted(b, 0) {
		t.Error("no other ports")
	}
}

// P8.4: after as many ticks as it has a clock is 0, and stays so; and who may be still may be.
func TestRunDown(t *testing.T) {
	for k := range 9 {
		b := two()
		c := clocksOf(&b.Ports[1].Clocks)[k]
		*c = 40
		for n := 40; n > 0; n-- {
			if *c != n || !clock.Right(b) {
				t.Fatalf("clock %d is %d, not %d", k, *c, n)
			}
			clock.Tick(&b)
		}
		for range 3 {
			if *c != 0 || !clock.Right(b) {
				t.Fatalf("clock %d is %d at last", k, *c)
			}
			clock.Tick(&b)
		}
	}
}

// P8.1: the samples, that other tests go on with, may be; and none of these calls changes what is handed in.
func TestSamples(t *testing.T) {
	d := samples.New(1)
	for range 2000 {
		b := samples.Bridge(d)
		ahead := samples.Copy(b)
		if !clock.Right(b) {
			t.Fatalf("%+v", b)
		}
		clock.AllSynced(b)
		clock.ReRooted(b, 0)
		clock.EdgeDelay(b, 0)
		clock.Forward(b, 0)
		if !samples.Same(b, ahead) {
			t.Fatal("changed")
		}
	}
}
