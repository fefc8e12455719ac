package bridge_test

import (
	"math"
	"testing"

	"ford/api"
	"ford/bpdu"
	"ford/bridge"
	"ford/clock"
	"ford/edge"
	"ford/info"
	"ford/mig"
	"ford/passage"
	"ford/rx"
	"ford/samples"
	"ford/sel"
	"ford/topo"
	"ford/trans"
	"ford/tx"
)

// usual are times that may be.
func usual() api.Times { return api.Times{Max: 20, Hello: 2, Delay: 15} }

// setups are ports, of which each one is set in another way.
func setups() []bridge.Setup {
	return []bridge.Setup{
		{ID: 0x8001, Cost: 5, Auto: true},
		{ID: 0x8002, Cost: 6, Shared: true},
		{ID: 0x8003, Cost: 7, Admin: true},
		{ID: 0x8004, Cost: 8},
	}
}

// begun is the port that a setup makes.
func begun(s bridge.Setup, rst bool) api.Port {
	p := api.Port{ID: s.ID, Cost: s.Cost, Shared: s.Shared, Admin: s.Admin, Auto: s.Auto}
	p.Clocks.EdgeDelay = 3
	p.Clocks.Mdelay = 3
	p.Clocks.Hello = 2
	p.Clocks.Rr = 15
	p.Clocks.Fd = 20
	p.States = api.States{Rx: api.RxDiscard, Mig: api.MigChecking, Edge: api.EdgeNot, Info: api.InfoDisabled, Trans: api.TransDisable, Pass: api.PassDiscarding, Topo: api.TopoInactive}
	if s.Admin {
		p.States.Edge = api.EdgeIs
	}
	p.Flags = api.Flags{Reselect: true, Sync: true, ReRoot: true, Flush: true, NewInfo: true, SendRst: rst, OperEdge: s.Admin}
	return p
}

// P18.1: a new bridge, and its ports.
func TestNew(t *testing.T) {
	for _, rst := range []bool{true, false} {
		want := api.Bridge{ID: 77, Rst: rst, Times: usual(), Hold: 6, Root: api.Vec{Root: 77, Bridge: 77}, RootPort: -1, RootT: usual()}
		for _, s := range setups() {
			want.Ports = append(want.Ports, begun(s, rst))
		}
		l := setups()
		b, ok := bridge.New(77, rst, usual(), 6, l)
		if !ok || !samples.Same(b, want) || !clock.Right(b) {
			t.Errorf("%+v, not %+v", b, want)
		}
		b.Ports[0].ID, l[1].ID = 9, 9
		if l[0].ID == 9 || b.Ports[1].ID == 9 {
			t.Error("shared")
		}
	}
}

// P18.1: bridges that couldn't be are none.
func TestNewWrong(t *testing.T) {
	for _, c := range []struct {
		name  string
		t     api.Times
		hold  int
		ports int
		want  bool
	}{
		{"ordinary", usual(), 6, 3, true},
		{"no ports", usual(), 6, 0, true},
		{"most ports", usual(), 10, api.MaxPorts, true},
		{"too many ports", usual(), 6, api.MaxPorts + 1, false},
		{"Hold 0", usual(), 0, 3, false},
		{"Hold 1", usual(), 1, 3, true},
		{"Hold 11", usual(), 11, 3, false},
		{"Hold below", usual(), math.MinInt, 3, false},
		{"no times", api.Times{}, 6, 3, false},
		{"an age", api.Times{Age: 1, Max: 20, Hello: 2, Delay: 15}, 6, 3, false},
		{"Max", api.Times{Max: 41, Hello: 2, Delay: 30}, 6, 3, false},
		{"Max far above", api.Times{Max: math.MaxInt, Hello: 2, Delay: 30}, 6, 3, false},
	} {
		b, ok := bridge.New(5, true, c.t, c.hold, make([]bridge.Setup, c.ports))
		if ok != c.want || !ok && !samples.Same(b, api.Bridge{}) {
			t.Errorf("%s: %v %+v", c.name, ok, b)
		}
	}
}

// run lets all machines step, as the chapter says.
func run(b *api.Bridge) (int, bool) {
	steps := 0
	for range 1000 {
		ahead := steps
		if sel.Step(b) {
			steps++
		}
		for i := range b.Ports {
			for _, step := range []func(*api.Bridge, int) bool{rx.Step, mig.Step, edge.Step, info.Step, trans.Step, passage.Step, topo.Step, tx.Step} {
				if step(b, i) {
					steps++
				}
			}
		}
		if steps == ahead {
			return steps, true
		}
	}
	return steps, false
}

// P18.2: machines step in their order, in rounds, till none does.
func TestRun(t *testing.T) {
	if bridge.Rounds != 1000 {
		t.Error("Rounds")
	}
	d := samples.New(182)
	for range 3000 {
		b := samples.Bridge(d)
		want := samples.Copy(b)
		steps, rest := bridge.Run(&b)
		ws, wr := run(&want)
		if steps != ws || rest != wr || !samples.Same(b, want) {
			t.Fatalf("%d %v %+v, not %d %v %+v", steps, rest, b, ws, wr, want)
		}
		if rest {
			if steps, rest = bridge.Run(&b); steps != 0 || !rest || !samples.Same(b, want) {
				t.Fatalf("at rest %d more steps", steps)
			}
		}
	}
}

// P18.2: a bridge of no ports is at rest.
func TestRunNone(t *testing.T) {
	b, _ := bridge.New(5, true, usual(), 6, nil)
	if steps, rest := bridge.Run(&b); steps != 0 || !rest {
		t.Error(steps, rest)
	}
}

// P18.3: what is done to a port, where there is one, and something to do.
func TestEnable(t *testing.T) {
	b, _ := bridge.New(5, true, usual(), 6, setups())
	for _, c := range []struct {
		i    int
		on   bool
		want bool
	}{
		{0, false, false}, {0, true, true}, {0, true, false}, {0, false, true}, {3, true, true}, {3, true, false},
		{4, true, false}, {-1, true, false}, {4, false, false}, {math.MaxInt, true, false}, {math.MinInt, true, false},
	} {
		want := samples.Copy(b)
		if c.want {
			want.Ports[c.i].Enabled = c.on
		}
		if got := bridge.Enable(&b, c.i, c.on); got != c.want || !samples.Same(b, want) {
			t.Errorf("Enable(%d, %v): %v", c.i, c.on, got)
		}
	}
}

// P18.3: Check is for bridges that speak Rst.
func TestCheck(t *testing.T) {
	for _, rst := range []bool{true, false} {
		for _, i := range []int{0, 3, 4, -1, math.MaxInt, math.MinInt} {
			b, _ := bridge.New(5, rst, usual(), 6, setups())
			want := samples.Copy(b)
			there := rst && (i == 0 || i == 3)
			if there {
				want.Ports[i].Flags.Mcheck = true
			}
			if got := bridge.Check(&b, i); got != there || !samples.Same(b, want) {
				t.Errorf("Check of %d, %v: %v", i, rst, got)
			}
		}
	}
}

// P18.3: Hear takes a message in, Tick is a second; neither runs.
func TestHearTick(t *testing.T) {
	d := samples.New(183)
	for range 3000 {
		b, m, i := samples.Bridge(d), samples.Msg(d), d.Upto(7)-1
		want := samples.Copy(b)
		if got := bridge.Hear(&b, i, m); got != rx.Take(&want, i, m) || !samples.Same(b, want) {
			t.Fatalf("Hear: %v %+v", got, b)
		}
		bridge.Tick(&b)
		clock.Tick(&want)
		if !samples.Same(b, want) {
			t.Fatalf("Tick: %+v", b)
		}
	}
}

// P18.4: whatever is done to a bridge, it comes to rest, and may be.
func TestRest(t *testing.T) {
	for seed := range uint64(60) {
		d := samples.New(seed)
		b, _ := bridge.New(uint64(d.Upto(4)), d.Flip(), usual(), 1+d.Upto(10), setups())
		for range 300 {
			i := d.Upto(len(b.Ports))
			switch d.Upto(10) {
			case 0:
				bridge.Enable(&b, i, d.Flip())
			case 1:
				bridge.Check(&b, i)
			case 2, 3, 4:
				bridge.Tick(&b)
			default:
				bridge.Hear(&b, i, bpdu.Plain(samples.Msg(d)))
			}
			if _, rest := bridge.Run(&b); !rest || !clock.Right(b) {
				t.Fatalf("seed %d: rest %v, %+v", seed, rest, b)
			}
		}
	}
}

// P18.2: rows count, too, where a message's times let a bridge be none that may be; and it is no panic.
func TestOddTimes(t *testing.T) {
	for _, tm := range []api.Times{
		{Age: -5, Max: 70000, Hello: 70000, Delay: -1},
		{Age: math.MaxInt, Max: math.MinInt, Hello: math.MaxInt, Delay: 5},
		{Age: 0, Max: 20, Hello: 400, Delay: 15},
	} {
		b, _ := bridge.New(5, true, usual(), 6, setups())
		for i := range b.Ports {
			bridge.Enable(&b, i, true)
		}
		bridge.Run(&b)
		want := samples.Copy(b)
		for i := range b.Ports {
			m := api.Msg{Kind: api.Rst, Role: api.RoleDesignated, Vec: api.Vec{Root: 1, Bridge: 1, Port: uint16(i)}, Times: tm}
			bridge.Hear(&b, i, m)
			rx.Take(&want, i, m)
		}
		for range 30 {
			steps, rest := bridge.Run(&b)
			if ws, wr := run(&want); steps != ws || rest != wr || !samples.Same(b, want) {
				t.Fatalf("%v: %d %v %+v", tm, steps, rest, b)
			}
			bridge.Tick(&b)
			clock.Tick(&want)
		}
	}
}

// P18.4: alone, a bridge's ports come to forward, as designated ones.
func TestAlone(t *testing.T) {
	for _, rst := range []bool{true, false} {
		b, _ := bridge.New(5, rst, usual(), 1, setups())
		for i := range b.Ports {
			bridge.Enable(&b, i, true)
		}
		bridge.Run(&b)
		for range 20 + 15 + 2 {
			bridge.Tick(&b)
			bridge.Run(&b)
		}
		for i, p := range b.Ports {
			if p.Role != api.RoleDesignated || !p.Flags.Learning || !p.Flags.Forwarding {
				t.Errorf("%v: port %d: %+v", rst, i, p)
			}
		}
		if b.Root != (api.Vec{Root: 5, Bridge: 5}) || b.RootPort != -1 {
			t.Errorf("%+v", b.Root)
		}
	}
}

// P18.2: two bridges that hear each other: the lesser number is root, and the other one's port forwards at once.
func TestTwo(t *testing.T) {
	var l [2]api.Bridge
	for k := range l {
		l[k], _ = bridge.New(uint64(k+1), true, usual(), 6, []bridge.Setup{{ID: 0x8001, Cost: 5}})
		bridge.Enable(&l[k], 0, true)
		bridge.Run(&l[k])
	}
	for range 20 {
		for k := range l {
			sent := l[k].Out
			l[k].Out = nil
			for _, s := range sent {
				bridge.Hear(&l[1-k], 0, s.Msg)
				bridge.Run(&l[1-k])
			}
		}
	}
	for k, role := range []int{api.RoleDesignated, api.RoleRoot} {
		if p := l[k].Ports[0]; p.Role != role || !p.Flags.Forwarding || l[k].Root.Root != 1 || l[k].Root.Cost != uint32(5*k) {
			t.Errorf("bridge %d: %+v", k+1, p)
		}
	}
}
