package calm_test

import (
	"slices"
	"testing"

	"ford/api"
	"ford/calm"
	"ford/lan"
	"ford/llc"
	"ford/nets"
	"ford/plan"
	"ford/samples"
	"ford/sim"
)

// ring is three bridges, each two on a segment of their own.
func ring() lan.Net { return nets.Of(3, []int{0, 1}, []int{0, 2}, []int{1, 2}) }

// raised is a net all segments of which are up.
func raised(n lan.Net) *lan.Lan {
	l := lan.New(n)
	sim.Raise(l, len(n.Segs))
	return l
}

// P24.1: after how many seconds all is settled.
func TestBound(t *testing.T) {
	if got := calm.Bound(ring()); got != 252 {
		t.Error(got)
	}
	n := nets.Of(5)
	n.Times = api.Times{Age: 99, Max: 6, Hello: 1, Delay: 4}
	if got := calm.Bound(n); got != 48+16+20+20 {
		t.Error(got)
	}
	if got := calm.Bound(lan.Net{}); got != 20 {
		t.Error(got)
	}
}

// P24.1: which segments are up, and what is told of each port.
func TestTold(t *testing.T) {
	for seed := range uint64(40) {
		d := samples.New(2410 + seed)
		n := nets.Net(d)
		l := raised(n)
		sim.Play(l, nets.Script(d, n, 100, false))
		up, roles, open, speaks := calm.Up(l, n), calm.Roles(l), calm.Open(l), calm.Speaks(l)
		bs := l.Bridges()
		if len(up) != len(n.Segs) || len(roles) != len(bs) || len(open) != len(bs) || len(speaks) != len(bs) {
			t.Fatalf("seed %d: lengths", seed)
		}
		for seg := range up {
			if up[seg] != l.Up(seg) {
				t.Errorf("seed %d: segment %d", seed, seg)
			}
		}
		for i, b := range bs {
			if len(roles[i]) != len(b.Ports) || len(open[i]) != len(b.Ports) || len(speaks[i]) != len(b.Ports) {
				t.Fatalf("seed %d: lengths of bridge %d", seed, i)
			}
			for k, p := range b.Ports {
				if roles[i][k] != p.Role || open[i][k] != (p.Enabled && p.Flags.Learning && p.Flags.Forwarding) || speaks[i][k] != p.Flags.SendRst {
					t.Errorf("seed %d: bridge %d, port %d", seed, i, k)
				}
			}
		}
	}
}

// P24.1: a port that learns, and doesn't forward yet, isn't open.
func TestOpen(t *testing.T) {
	n := nets.Of(1, []int{0})
	n.Nodes[0].Rst = false
	l := raised(n)
	var opened []int
	for sec := range 40 {
		if p := l.Bridges()[0].Ports[0]; p.Flags.Learning && !p.Flags.Forwarding && calm.Open(l)[0][0] {
			t.Error("open, though it doesn't forward")
		}
		if calm.Open(l)[0][0] {
			opened = append(opened, sec)
		}
		sim.Quiet(l, 1)
	}
	// An elder bridge's port listens, and learns, for Delay each.
	if len(opened) == 0 || opened[0] < 30 || opened[len(opened)-1] != 39 {
		t.Error(opened)
	}
	l.Link(0, false)
	if calm.Open(l)[0][0] || calm.Up(l, n)[0] {
		t.Error("open, though it is down")
	}
}

// P24.2: it fits when all have come to the plan, and not ahead; nor when the plan is another one.
func TestFits(t *testing.T) {
	n := ring()
	l := raised(n)
	if calm.Fits(l, n) {
		t.Error("ahead of all messages")
	}
	if !calm.Settle(l, n) || !calm.Fits(l, n) {
		t.Error("settled")
	}
	for i := range n.Nodes {
		n.Nodes[i].Rst = false
	}
	if !calm.Fits(l, n) {
		t.Error("which protocol they speak at first plays no part")
	}
	dear := ring()
	dear.Nodes[2].Ports[0].Cost = 11
	if calm.Fits(l, dear) {
		t.Error("another cost, the same roles")
	}
	other := ring()
	other.Nodes[2].Ports[0].Cost = 100
	if calm.Fits(l, other) {
		t.Error("other roles")
	}
	third := ring()
	third.Nodes[0].ID |= 1 << 60
	if calm.Fits(l, third) {
		t.Error("another root")
	}
	l.Link(0, false)
	if calm.Fits(l, n) {
		t.Error("a segment is down, and nobody knows yet")
	}
	if !calm.Settle(l, n) {
		t.Error("settled anew")
	}
}

// P24.2: where roles are right already, ports must be open, too.
func TestFitsOpen(t *testing.T) {
	n := nets.Of(1, []int{0})
	n.Nodes[0].Rst = false
	l := raised(n)
	sim.Quiet(l, 5)
	if calm.Roles(l)[0][0] != api.RoleDesignated || calm.Fits(l, n) {
		t.Error("it isn't open yet")
	}
	sim.Quiet(l, 40)
	if !calm.Fits(l, n) {
		t.Error("it is open")
	}
}

// P24.2: just the ports of the tree are open: not one that is an edge, and is to be a backup.
func TestFitsShut(t *testing.T) {
	n := nets.Of(1, []int{0, 0})
	n.Nodes[0].Ports[1].Admin = true
	l := lan.New(n)
	l.Link(0, true)
	if calm.Fits(l, n) {
		t.Error("two designated ports on one segment")
	}
	if !calm.Settle(l, n) || calm.Roles(l)[0][1] != api.RoleBackup || calm.Open(l)[0][1] {
		t.Error("settled")
	}
}

// R1: a net of which it isn't, and one that may not be, don't fit, and are no panic.
func TestOthers(t *testing.T) {
	l := raised(ring())
	for _, n := range []lan.Net{{}, nets.Of(2, []int{0, 1}), nets.Of(5, []int{0, 1}, []int{2, 3, 4}, []int{0, 4}, []int{1, 2}), {Segs: make([][]lan.Place, 9)}} {
		if calm.Fits(l, n) {
			t.Errorf("%+v fits", n)
		}
		calm.Up(l, n)
	}
	n := nets.Of(0)
	if l := lan.New(n); !calm.Fits(l, n) || !calm.Settle(l, n) || len(calm.Roles(l)) != 0 {
		t.Error("nothing settles at once")
	}
}

// P24.3: it settles in Bound seconds, in which all is delivered.
func TestSettle(t *testing.T) {
	n := ring()
	l, other := raised(n), raised(n)
	if !calm.Settle(l, n) || !sim.Quiet(other, calm.Bound(n)) || !nets.Same(l, other, len(n.Segs)) {
		t.Error("settled")
	}
	if wrong := nets.Of(2, []int{0, 1}); calm.Settle(l, wrong) {
		t.Error("it settles to another net's plan")
	}
}

// P24.3: where it wasn't quiet, because too much flew, it has not settled, though all fits at last.
func TestSettleNotQuiet(t *testing.T) {
	var seg []int
	for k := range 62 {
		seg = append(seg, k%31)
	}
	n := nets.Of(31, seg)
	n.Hold = 10
	l := raised(n)
	for k := 0; l.Flying() < sim.Most+5; k++ {
		l.Version(k%31, true)
	}
	if calm.Settle(l, n) || !calm.Fits(l, n) {
		t.Error("quiet, or not come to the plan")
	}
}

// elders tells whether a segment has a port of a bridge that doesn't speak Rst.
func elders(bs []api.Bridge, seg []lan.Place) bool {
	return slices.ContainsFunc(seg, func(p lan.Place) bool { return !bs[p.Bridge].Rst })
}

// TestTheorem: P24.4, T1, T2, T4, T6: behind any tame script a net settles, and stays so; whoever speaks what.
// (Of some thousand nets there is one in which, on a shared segment with bridges of both kinds, ports go on changing their protocols in step, as their rows say: see README.md. None of these seeds makes one.)
func TestTheorem(t *testing.T) {
	for seed := range uint64(250) {
		d := samples.New(2440 + seed)
		n := nets.Net(d)
		l := lan.New(n)
		if d.Flip() {
			sim.Raise(l, len(n.Segs))
		}
		sim.Play(l, nets.Script(d, n, d.Upto(400), true))
		if !calm.Settle(l, n) {
			t.Errorf("seed %d: %+v: %v of %v doesn't settle", seed, n, calm.Roles(l), plan.Of(n, calm.Up(l, n)).Roles)
			continue
		}
		for range 50 {
			if !sim.Quiet(l, 1) || !calm.Fits(l, n) {
				t.Fatalf("seed %d: doesn't stay", seed)
			}
		}
		bs, speaks := l.Bridges(), calm.Speaks(l)
		for seg, places := range n.Segs {
			for _, p := range places {
				if l.Up(seg) && elders(bs, places) && speaks[p.Bridge][p.Port] {
					t.Errorf("seed %d: %v speaks Rst to an elder bridge", seed, p)
				}
			}
		}
	}
}

// TestProtocols: P24.4, T2: where the same segments are up, roles and open ports are the same, whatever was done ahead.
func TestProtocols(t *testing.T) {
	for seed := range uint64(40) {
		d := samples.New(2480 + seed)
		n := nets.Net(d)
		var roles [][]int
		var open [][]bool
		for round := range 4 {
			for i := range n.Nodes {
				n.Nodes[i].Rst = d.Flip()
			}
			l := raised(n)
			sim.Play(l, nets.Script(d, n, 100, true))
			sim.Raise(l, len(n.Segs))
			if !calm.Settle(l, n) {
				t.Fatalf("seed %d: doesn't settle", seed)
			}
			if round == 0 {
				roles, open = calm.Roles(l), calm.Open(l)
			}
			if !slices.EqualFunc(roles, calm.Roles(l), slices.Equal[[]int]) || !slices.EqualFunc(open, calm.Open(l), slices.Equal[[]bool]) {
				t.Errorf("seed %d: other roles", seed)
			}
		}
	}
}

// TestSafe: T6: behind any script at all each bridge may be, and bytes that are no message change nothing but a count.
func TestSafe(t *testing.T) {
	for seed := range uint64(40) {
		d := samples.New(2490 + seed)
		n := nets.Net(d)
		l := raised(n)
		for _, a := range nets.Script(d, n, 400, false) {
			ahead, bad := l.Bridges(), l.Bad()
			did, _ := sim.Do(l, a)
			if _, _, e := llc.Open(a.Data); a.Kind == sim.Inject && e != api.OK {
				for i, b := range l.Bridges() {
					if !samples.Same(b, ahead[i]) {
						t.Fatalf("seed %d: %v changes bridge %d", seed, a.Data, i)
					}
				}
				if did != (l.Bad() == bad+1) {
					t.Fatalf("seed %d: %v isn't counted", seed, a.Data)
				}
			}
			for i := range n.Nodes {
				if len(l.Known(i)) > n.Room {
					t.Fatalf("seed %d: bridge %d knows too many", seed, i)
				}
			}
		}
	}
}

// TestExamples: the ten examples of the whole, as far as they are of nets.
func TestExamples(t *testing.T) {
	// 4: who hears a Config after three seconds at a port speaks the elder protocol there.
	n := nets.Of(2, []int{0, 1})
	n.Nodes[0].Rst = false
	l := raised(n)
	sim.Quiet(l, 5)
	if s := calm.Speaks(l); s[0][0] || s[1][0] {
		t.Error("Rst is spoken to an elder bridge")
	}
	// 5: a root that isn't heard any more is forgotten after three hellos.
	l = raised(nets.Of(2, []int{0, 1}))
	sim.Quiet(l, 9)
	for sec := range 8 {
		if root := l.Bridges()[1].Root.Root; root != 1 && sec < 5 || root != 2 && sec > 6 {
			t.Errorf("after %d seconds: %d", sec, root)
		}
		l.Tick()
		for l.Drop(0) {
		}
	}
	// 6: a port at which nobody is heard for three seconds, set to find that out, is an edge, and forwards.
	n = nets.Of(1, []int{0})
	n.Nodes[0].Ports[0].Auto = true
	l = raised(n)
	sim.Quiet(l, 2)
	if calm.Open(l)[0][0] {
		t.Error("open after two seconds")
	}
	sim.Quiet(l, 2)
	if !calm.Open(l)[0][0] {
		t.Error("not open after four seconds")
	}
	// 7: on a segment of three places nobody agrees: it takes its time.
	n = nets.Of(3, []int{0, 1, 2})
	l = raised(n)
	sim.Quiet(l, 1)
	if calm.Open(l)[0][0] {
		t.Error("agreed on a shared segment")
	}
	// 10: a link goes down: the port is disabled at once.
	l.Link(0, false)
	if calm.Roles(l)[0][0] != api.RoleDisabled || l.Flying() != 0 {
		t.Error("the port isn't disabled")
	}
}
