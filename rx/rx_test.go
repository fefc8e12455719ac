package rx_test

import (
	"math"
	"testing"

	"ford/api"
	"ford/rx"
	"ford/samples"
)

// receive is what the second and third rows do.
func receive(p *api.Port) {
	if p.Msg.Kind == api.Rst {
		p.Flags.RcvdRst = true
	} else {
		p.Flags.RcvdStp = true
	}
	p.Flags.OperEdge = false
	p.Flags.RcvdBpdu = false
	p.Flags.RcvdMsg = true
	p.Clocks.EdgeDelay = 3
	p.States.Rx = api.RxReceive
}

// rows does what the first row says that holds, and tells which one.
func rows(b *api.Bridge, i int) int {
	p := &b.Ports[i]
	switch {
	case !p.Enabled && (p.Flags.RcvdBpdu || p.Clocks.EdgeDelay != 3):
		p.Flags.RcvdBpdu = false
		p.Flags.RcvdRst = false
		p.Flags.RcvdStp = false
		p.Flags.RcvdMsg = false
		p.Clocks.EdgeDelay = 3
		p.States.Rx = api.RxDiscard
		return 1
	case p.States.Rx == api.RxDiscard && p.Flags.RcvdBpdu && p.Enabled:
		receive(p)
		return 2
	case p.States.Rx == api.RxReceive && p.Flags.RcvdBpdu && p.Enabled && !p.Flags.RcvdMsg:
		receive(p)
		return 3
	}
	return 0
}

// P9.2: a step does what its rows say.
func TestRows(t *testing.T) {
	if f, wrong := samples.Against(rx.Step, rows, 3, 20000); wrong {
		t.Errorf("%+v", f)
	}
}

// one is a bridge of a port that hears, and another one.
func one() api.Bridge {
	p := api.Port{Enabled: true, Clocks: api.Clocks{EdgeDelay: 1}, Flags: api.Flags{OperEdge: true}}
	return api.Bridge{ID: 5, Rst: true, Times: api.Times{Max: 20, Hello: 2, Delay: 15}, Hold: 6, RootPort: -1, Ports: []api.Port{{}, p}}
}

// P9.1: what is taken in: where there is a port, that is up and free, and the message is understood.
func TestTake(t *testing.T) {
	m := api.Msg{Kind: api.Config, Change: true, Vec: api.Vec{Root: 3}, Times: api.Times{Age: 70000, Max: -5}}
	kind := func(k int) api.Msg { x := m; x.Kind = k; return x }
	for _, c := range []struct {
		name string
		with func(b *api.Bridge)
		i    int
		m    api.Msg
		want bool
	}{
		{"Config", func(b *api.Bridge) {}, 1, kind(api.Config), true},
		{"Tcn", func(b *api.Bridge) {}, 1, kind(api.Tcn), true},
		{"Rst", func(b *api.Bridge) {}, 1, kind(api.Rst), true},
		{"no kind", func(b *api.Bridge) {}, 1, kind(7), true},
		{"Rst, not understood", func(b *api.Bridge) { b.Rst = false }, 1, kind(api.Rst), false},
		{"Config of an elder bridge", func(b *api.Bridge) { b.Rst = false }, 1, kind(api.Config), true},
		{"Tcn of an elder bridge", func(b *api.Bridge) { b.Rst = false }, 1, kind(api.Tcn), true},
		{"not Enabled", func(b *api.Bridge) { b.Ports[1].Enabled = false }, 1, m, false},
		{"not free", func(b *api.Bridge) { b.Ports[1].Flags.RcvdBpdu = true }, 1, m, false},
		{"one in hand", func(b *api.Bridge) { b.Ports[1].Flags.RcvdMsg = true }, 1, m, true},
		{"speaks no Rst", func(b *api.Bridge) { b.Ports[1].Flags.SendRst = false }, 1, kind(api.Rst), true},
		{"another port that is down", func(b *api.Bridge) {}, 0, m, false},
		{"no port 2", func(b *api.Bridge) {}, 2, m, false},
		{"no port -1", func(b *api.Bridge) {}, -1, m, false},
		{"no port at all", func(b *api.Bridge) { b.Ports = nil }, 0, m, false},
		{"far above", func(b *api.Bridge) {}, math.MaxInt, m, false},
		{"far below", func(b *api.Bridge) {}, math.MinInt, m, false},
	} {
		b := one()
		c.with(&b)
		want := samples.Copy(b)
		if c.want {
			want.Ports[1].Msg = c.m
			want.Ports[1].Flags.RcvdBpdu = true
		}
		if got := rx.Take(&b, c.i, c.m); got != c.want || !samples.Same(b, want) {
			t.Errorf("%s: %v %+v", c.name, got, b)
		}
	}
}

// P9.1: each port takes in what comes to it, the first one and the last one, too.
func TestTakeEach(t *testing.T) {
	b := one()
	b.Ports = []api.Port{{Enabled: true}, {Enabled: true}, {Enabled: true}}
	for i := range b.Ports {
		want := samples.Copy(b)
		want.Ports[i].Msg, want.Ports[i].Flags.RcvdBpdu = api.Msg{Kind: api.Tcn}, true
		if !rx.Take(&b, i, api.Msg{Kind: api.Tcn}) || !samples.Same(b, want) {
			t.Errorf("port %d: %+v", i, b)
		}
	}
}

// P9.2: the example: what is taken in is handed on.
func TestExample(t *testing.T) {
	b := one()
	if !rx.Take(&b, 1, api.Msg{Kind: api.Rst}) || !rx.Step(&b, 1) {
		t.Fatal("no step")
	}
	p := b.Ports[1]
	if want := (api.Flags{RcvdMsg: true, RcvdRst: true}); p.Flags != want || p.Clocks.EdgeDelay != api.Migrate || p.States.Rx != api.RxReceive {
		t.Errorf("%+v", p)
	}
	if rx.Step(&b, 1) {
		t.Error("a second step")
	}
	if !rx.Take(&b, 1, api.Msg{Kind: api.Config}) || rx.Step(&b, 1) {
		t.Error("handed on while one is in hand")
	}
}

// P9.3: behind two steps there is no third one; who isn't Enabled hands nothing on.
func TestRest(t *testing.T) {
	d := samples.New(9)
	for range 5000 {
		b := samples.Bridge(d)
		rx.Step(&b, 0)
		rx.Step(&b, 0)
		if p := b.Ports[0]; !p.Enabled && p.Flags.RcvdBpdu {
			t.Fatalf("%+v hands on", p)
		}
		if rx.Step(&b, 0) {
			t.Fatalf("%+v steps a third time", b.Ports[0])
		}
	}
}
