package lan_test

import (
	"math"
	"slices"
	"testing"

	"ford/api"
	"ford/bridge"
	"ford/fdb"
	"ford/lan"
	"ford/llc"
	"ford/nets"
	"ford/samples"
)

// at is a place.
func at(bridge, port int) lan.Place { return lan.Place{Bridge: bridge, Port: port} }

// ring is three bridges, each two on a segment of their own: 0 and 1, 1 and 2, 0 and 2.
func ring() lan.Net { return nets.Of(3, []int{0, 1}, []int{1, 2}, []int{0, 2}) }

// up is a net all segments of which are up, and so many seconds old, in which all was delivered.
func up(n lan.Net, sec int) *lan.Lan {
	l := lan.New(n)
	for seg := range n.Segs {
		l.Link(seg, true)
	}
	for l.Deliver() {
	}
	for range sec {
		l.Tick()
		for l.Deliver() {
		}
	}
	return l
}

// P20.1: which nets may be; of one that may not New tells nil.
func TestRight(t *testing.T) {
	for _, c := range []struct {
		name string
		with func(n *lan.Net)
		want bool
	}{
		{"ring", func(n *lan.Net) {}, true},
		{"nothing", func(n *lan.Net) { n.Nodes, n.Segs = nil, nil }, true},
		{"segments without places", func(n *lan.Net) { n.Nodes, n.Segs = nil, make([][]lan.Place, 3) }, true},
		{"no segments", func(n *lan.Net) { n.Segs = nil }, true},
		{"times", func(n *lan.Net) { n.Times.Hello = 0 }, false},
		{"age", func(n *lan.Net) { n.Times.Age = 1 }, false},
		{"Hold 0", func(n *lan.Net) { n.Hold = 0 }, false},
		{"Hold 11", func(n *lan.Net) { n.Hold = 11 }, false},
		{"Room 0", func(n *lan.Net) { n.Room = 0 }, false},
		{"Room most", func(n *lan.Net) { n.Room = api.MaxEntries }, true},
		{"Room above", func(n *lan.Net) { n.Room = api.MaxEntries + 1 }, false},
		{"Age 0", func(n *lan.Net) { n.Age = 0 }, false},
		{"Age most", func(n *lan.Net) { n.Age = fdb.MaxAge }, true},
		{"Age above", func(n *lan.Net) { n.Age = fdb.MaxAge + 1 }, false},
		{"Room 0 without nodes", func(n *lan.Net) { n.Nodes, n.Segs, n.Room = nil, nil, 0 }, false},
		{"like addresses", func(n *lan.Net) { n.Nodes[2].ID = n.Nodes[0].ID | 1<<48 }, false},
		{"like first parts", func(n *lan.Net) { n.Nodes[2].ID |= 1 << 48; n.Nodes[1].ID |= 1 << 48 }, true},
		{"like ports", func(n *lan.Net) { n.Nodes[1].Ports[1].ID = n.Nodes[1].Ports[0].ID ^ 0x1000 }, false},
		{"like ports of two bridges", func(n *lan.Net) { n.Nodes[1].Ports[0].ID = n.Nodes[0].Ports[0].ID }, true},
		{"cost 0", func(n *lan.Net) { n.Nodes[1].Ports[1].Cost = 0 }, false},
		{"cost 1", func(n *lan.Net) { n.Nodes[1].Ports[1].Cost = 1 }, true},
		{"cost most", func(n *lan.Net) { n.Nodes[1].Ports[1].Cost = 200000000 }, true},
		{"cost above", func(n *lan.Net) { n.Nodes[1].Ports[1].Cost = 200000001 }, false},
		{"place twice", func(n *lan.Net) { n.Segs[0] = append(n.Segs[0], at(0, 0)) }, false},
		{"place on two segments", func(n *lan.Net) { n.Segs[1] = append(n.Segs[1], at(0, 0)) }, false},
		{"place that isn't, bridge 3", func(n *lan.Net) { n.Segs[0][0] = at(3, 0) }, false},
		{"place that isn't, bridge -1", func(n *lan.Net) { n.Segs[0][0] = at(-1, 0) }, false},
		{"place that isn't, port 2", func(n *lan.Net) { n.Segs[0][0] = at(0, 2) }, false},
		{"place that isn't, port -1", func(n *lan.Net) { n.Segs[0][0] = at(0, -1) }, false},
		{"place far off", func(n *lan.Net) { n.Segs[0][0] = at(math.MinInt, math.MaxInt) }, false},
		{"two ports on one segment", func(n *lan.Net) { n.Segs = [][]lan.Place{{at(0, 0), at(0, 1)}} }, true},
	} {
		n := ring()
		c.with(&n)
		if got := lan.Right(n); got != c.want {
			t.Errorf("%s: %v", c.name, got)
		}
		if l := lan.New(n); (l != nil) != c.want {
			t.Errorf("%s: New tells %v", c.name, l)
		}
	}
}

// P20.1: as many bridges and ports as may be, and one more.
func TestRightMost(t *testing.T) {
	for _, c := range []struct {
		bridges, ports int
		want           bool
	}{{api.MaxBridges, 1, true}, {api.MaxBridges + 1, 1, false}, {1, api.MaxPorts, true}, {1, api.MaxPorts + 1, false}} {
		n := nets.Of(c.bridges)
		for i := range n.Nodes {
			for k := range c.ports {
				n.Nodes[i].Ports = append(n.Nodes[i].Ports, bridge.Setup{ID: uint16(k + 1), Cost: 1})
			}
		}
		if got := lan.Right(n); got != c.want {
			t.Errorf("%d bridges of %d ports: %v", c.bridges, c.ports, got)
		}
	}
}

// P20.1: a net begins with segments that are down, and with bridges that have settled.
func TestNew(t *testing.T) {
	n := ring()
	l := lan.New(n)
	if l.Flying() != 0 || l.Bad() != 0 || l.Up(0) || l.Up(2) || l.Up(-1) || l.Up(3) || l.Up(math.MaxInt) || l.Up(math.MinInt) {
		t.Error("not as at first")
	}
	bs := l.Bridges()
	if len(bs) != 3 {
		t.Fatal(len(bs))
	}
	for i, b := range bs {
		want, _ := bridge.New(n.Nodes[i].ID, true, n.Times, n.Hold, n.Nodes[i].Ports)
		bridge.Run(&want)
		want.Out, want.Flushed = nil, nil
		if !samples.Same(b, want) || len(l.Known(i)) != 0 {
			t.Errorf("bridge %d: %+v", i, b)
		}
		if b.Ports[0].Enabled || b.Ports[0].Role != api.RoleDisabled {
			t.Errorf("bridge %d: %+v", i, b.Ports[0])
		}
	}
	for _, i := range []int{-1, 3, math.MaxInt, math.MinInt} {
		if len(l.Known(i)) != 0 {
			t.Error("a bridge that there isn't knows something")
		}
	}
}

// P20.1: ports of a segment of more than two places are Shared, all others aren't, whatever is set; those on none are never enabled.
func TestShared(t *testing.T) {
	n := nets.Of(3, []int{0, 1, 2}, []int{0, 1}, []int{2})
	n.Nodes[1].Ports = append(n.Nodes[1].Ports, bridge.Setup{ID: 9, Cost: 1, Shared: true})
	for i := range n.Nodes {
		n.Nodes[i].Ports[1].Shared = true
	}
	l := up(n, 3)
	for range 2 {
		for i, b := range l.Bridges() {
			for k, p := range b.Ports {
				if p.Shared != (k == 0) || p.Enabled != (k < 2) {
					t.Errorf("bridge %d, port %d: %+v", i, k, p)
				}
			}
		}
		l.Version(1, true)
	}
	if !n.Nodes[1].Ports[2].Shared {
		t.Error("the net that was handed in is changed")
	}
}

// The example: two bridges on a segment.
func TestExample(t *testing.T) {
	l := lan.New(nets.Of(2, []int{0, 1}))
	if !l.Link(0, true) || l.Flying() != 4 {
		t.Fatal(l.Flying())
	}
	if !l.Deliver() || !l.Deliver() {
		t.Fatal("nothing flies")
	}
	bs := l.Bridges()
	if p := bs[0].Ports[0]; p.Role != api.RoleDesignated {
		t.Errorf("%+v", p)
	}
	if p := bs[1].Ports[0]; p.Role != api.RoleRoot || bs[1].RootPort != 0 || bs[1].Root.Cost != 10 {
		t.Errorf("%+v", p)
	}
	for l.Deliver() {
	}
	for i, b := range l.Bridges() {
		if !b.Ports[0].Flags.Forwarding {
			t.Errorf("bridge %d: %+v", i, b.Ports[0])
		}
	}
}

// R5: what is handed in is not kept; what is answered is memory of its own.
func TestOwn(t *testing.T) {
	n := ring()
	l, other := lan.New(n), lan.New(ring())
	n.Segs[0][0], n.Segs[1] = at(2, 0), nil
	n.Nodes[0].Ports[0].Cost = 77
	n.Nodes[1].ID = 99
	for _, x := range []*lan.Lan{l, other} {
		for seg := range 3 {
			x.Link(seg, true)
		}
		x.Version(0, true)
		if x == l {
			bs := x.Bridges()
			bs[0].Ports[0] = api.Port{}
			bs[1].ID = 5
		}
		for x.Deliver() {
		}
	}
	for i, b := range l.Bridges() {
		if !samples.Same(b, other.Bridges()[i]) {
			t.Errorf("bridge %d is another one", i)
		}
	}
	f := llc.Wrap(9, api.Msg{Kind: api.Tcn})
	g := slices.Clone(f)
	l.Inject(at(0, 0), f)
	if !slices.Equal(f, g) {
		t.Error("the frame is changed")
	}
}

// P20.2: a second makes ports and databases older, and lets bridges tell what they have to, every Hello seconds.
func TestTick(t *testing.T) {
	l := up(ring(), 60)
	l.Frame(0, 7, 8)
	ahead := l.Known(1)
	if len(ahead) != 1 || ahead[0].Sec != 300 {
		t.Fatal(ahead)
	}
	sent := 0
	for range 4 {
		l.Tick()
		sent += l.Flying()
		for l.Deliver() {
		}
	}
	// Six designated places in all, of which three tell something, every two seconds.
	if sent != 6 {
		t.Error(sent)
	}
	if now := l.Known(1); len(now) != 1 || now[0].Sec != 296 {
		t.Error(now)
	}
	if lan.New(nets.Of(0)).Deliver() {
		t.Error("something flies where nothing is")
	}
}

// P20.2: a frame that is no message is counted, and changes nothing else.
func TestBad(t *testing.T) {
	l := up(ring(), 5)
	ahead, flying := l.Bridges(), l.Flying()
	config := llc.Wrap(9, api.Msg{Kind: api.Config, Times: api.Times{Age: 20, Max: 20}})
	for k, f := range [][]byte{nil, {1, 2, 3}, make([]byte, 60), config} {
		if !l.Inject(at(1, 0), f) || l.Bad() != k+1 || l.Flying() != flying {
			t.Errorf("frame %d: Bad %d", k, l.Bad())
		}
	}
	for i, b := range l.Bridges() {
		if !samples.Same(b, ahead[i]) {
			t.Errorf("bridge %d has changed", i)
		}
	}
}

// P20.3: what flies is lost, put behind all, or doubled, where it is.
func TestFlying(t *testing.T) {
	l := lan.New(ring())
	for seg := range 3 {
		l.Link(seg, true)
	}
	many := l.Flying()
	for _, k := range []int{-1, many, many + 1, math.MaxInt, math.MinInt} {
		if l.Drop(k) || l.Later(k) || l.Twice(k) || l.Flying() != many {
			t.Errorf("the %d-th flies", k)
		}
	}
	if !l.Later(0) || l.Flying() != many || !l.Twice(many-1) || l.Flying() != many+1 || !l.Drop(0) || l.Flying() != many {
		t.Error(l.Flying())
	}
	for l.Twice(0) {
	}
	if l.Flying() != 10000 {
		t.Error("doubled till", l.Flying())
	}
	if !l.Later(5) || !l.Drop(9999) || !l.Twice(7) || l.Twice(7) {
		t.Error("where most flies")
	}
	for l.Drop(0) {
	}
	if l.Flying() != 0 || l.Deliver() || l.Drop(0) || l.Later(0) || l.Twice(0) {
		t.Error("something flies")
	}
}

// P20.4: segments come and go; what flies on one that goes is gone.
func TestLink(t *testing.T) {
	l := lan.New(ring())
	for _, seg := range []int{-1, 3, math.MaxInt, math.MinInt} {
		if l.Link(seg, true) || l.Link(seg, false) {
			t.Errorf("there is a segment %d", seg)
		}
	}
	if l.Link(0, false) || !l.Link(0, true) || l.Link(0, true) || !l.Up(0) || l.Up(1) {
		t.Error("segment 0")
	}
	one := l.Flying()
	l.Link(1, true)
	two := l.Flying()
	if one == 0 || two <= one {
		t.Error(one, two)
	}
	if !l.Link(0, false) || l.Up(0) || l.Flying() != two-one {
		t.Error("gone:", l.Flying())
	}
	bs := l.Bridges()
	if p := bs[0].Ports[0]; p.Enabled || p.Role != api.RoleDisabled || !bs[1].Ports[1].Enabled {
		t.Errorf("%+v", p)
	}
}

// P20.4: a bridge that begins anew has forgotten all, and has its ports enabled where segments are up.
func TestVersion(t *testing.T) {
	l := up(ring(), 60)
	l.Frame(0, 7, 8)
	l.Link(2, false)
	for _, i := range []int{-1, 3, math.MaxInt, math.MinInt} {
		if l.Version(i, true) {
			t.Errorf("there is a bridge %d", i)
		}
	}
	if len(l.Known(0)) == 0 || !l.Version(0, false) || len(l.Known(0)) != 0 {
		t.Error(l.Known(0))
	}
	b := l.Bridges()[0]
	if b.Rst || b.ID != 1 || !b.Ports[0].Enabled || b.Ports[1].Enabled || b.Ports[0].Flags.SendRst || b.Ports[0].Flags.Forwarding {
		t.Errorf("%+v", b)
	}
	if l.Flying() == 0 {
		t.Error("it tells nothing")
	}
	if !l.Version(0, false) || !l.Version(0, true) || !l.Bridges()[0].Rst {
		t.Error("as it is already")
	}
}

// P20.4: a port tries Rst again, where there is one, of a bridge that speaks it.
func TestCheck(t *testing.T) {
	n := nets.Of(2, []int{0, 1})
	n.Nodes[1].Rst = false
	l := up(n, 10)
	if l.Bridges()[0].Ports[0].Flags.SendRst {
		t.Error("Rst is spoken to an elder bridge")
	}
	for _, p := range []lan.Place{at(1, 0), at(0, 1), at(0, -1), at(-1, 0), at(2, 0), at(math.MaxInt, math.MaxInt)} {
		if l.Check(p.Bridge, p.Port) {
			t.Errorf("%v checks", p)
		}
	}
	if !l.Check(0, 0) || !l.Bridges()[0].Ports[0].Flags.SendRst {
		t.Error("it doesn't try")
	}
}

// P20.5: a frame comes to a place that there is, on a segment that is up.
func TestInject(t *testing.T) {
	n := ring()
	n.Nodes[0].Ports = append(n.Nodes[0].Ports, bridge.Setup{ID: 9, Cost: 1})
	l := lan.New(n)
	l.Link(0, true)
	best := llc.Wrap(9, api.Msg{Kind: api.Rst, Role: api.RoleDesignated, Vec: api.Vec{Root: 0, Bridge: 0, Port: 1}, Times: nets.Usual()})
	for _, p := range []lan.Place{at(0, 1), at(0, 2), at(0, 3), at(0, -1), at(-1, 0), at(3, 0), at(math.MinInt, math.MaxInt)} {
		if l.Inject(p, best) || l.Inject(p, nil) || l.Bad() != 0 {
			t.Errorf("%v hears", p)
		}
	}
	flying := l.Flying()
	if !l.Inject(at(1, 0), best) || l.Bad() != 0 {
		t.Error("nobody hears")
	}
	bs := l.Bridges()
	if b := bs[1]; b.RootPort != 0 || b.Root.Root != 0 || b.Root.Cost != 10 {
		t.Errorf("%+v", b.Root)
	}
	if bs[0].Root.Root != 1 || l.Flying() <= flying {
		t.Error("the other one heard it, or nothing is answered")
	}
}

// P20.6: a frame in a ring that has come to rest: once on each segment; then the way is known.
func TestFrame(t *testing.T) {
	l := up(ring(), 60)
	for _, seg := range []int{-1, 3, math.MaxInt, math.MinInt} {
		if len(l.Frame(seg, 7, 8)) != 0 {
			t.Errorf("seen from segment %d", seg)
		}
	}
	if got := l.Frame(0, 7, 8); !slices.Equal(got, []int{1, 1, 1}) {
		t.Error("to all:", got)
	}
	if got := l.Frame(2, 8, 7); !slices.Equal(got, []int{1, 0, 1}) {
		t.Error("to one that is known:", got)
	}
	if got := l.Frame(1, 9, 0x0180c2000003); !slices.Equal(got, []int{0, 1, 0}) {
		t.Error("to a reserved one:", got)
	}
	l.Link(1, false)
	if len(l.Frame(1, 7, 8)) != 0 {
		t.Error("seen on a segment that is down")
	}
	if lan.New(ring()).Frame(0, 7, 8) != nil {
		t.Error("seen where nothing is up")
	}
}

// P20.6: where frames go round they are seen a thousand times, and no more.
func TestFrameRound(t *testing.T) {
	n := nets.Of(2, []int{0, 1}, []int{0, 1})
	for i := range n.Nodes {
		for k := range n.Nodes[i].Ports {
			n.Nodes[i].Ports[k].Admin = true
		}
	}
	// Ports that are set to be edges forward till they hear each other: nothing is delivered here.
	l := lan.New(n)
	l.Link(0, true)
	l.Link(1, true)
	got := l.Frame(0, 7, 0xffffffffffff)
	if len(got) != 2 || got[0]+got[1] != 1000 || got[0] < 400 || got[1] < 400 {
		t.Error(got)
	}
}

// P20.7: what a call asks changes nothing.
func TestAsk(t *testing.T) {
	l, m := up(ring(), 9), newModel(ring())
	for seg := range 3 {
		m.link(seg, true)
	}
	for m.deliver() {
	}
	for range 9 {
		m.tick()
		for m.deliver() {
		}
	}
	for range 3 {
		l.Bridges()
		l.Known(1)
		l.Up(1)
		l.Flying()
		l.Bad()
		if why := m.like(l); why != "" {
			t.Error(why)
		}
	}
}
