package lan_test

import (
	"slices"
	"testing"

	"ford/api"
	"ford/bridge"
	"ford/fdb"
	"ford/ident"
	"ford/lan"
	"ford/llc"
	"ford/nets"
	"ford/relay"
	"ford/samples"
)

// letter is a frame that flies to a place.
type letter struct {
	to    lan.Place
	frame []byte
}

// model is a net that goes on as the chapter says, in the plainest way.
type model struct {
	n   lan.Net
	b   []api.Bridge
	f   []*fdb.Fdb
	up  []bool
	fly []letter
	bad int
}

// segOf is the segment of a place; -1, if there is none.
func (m *model) segOf(p lan.Place) int {
	for seg, places := range m.n.Segs {
		if slices.Contains(places, p) {
			return seg
		}
	}
	return -1
}

func newModel(n lan.Net) *model {
	m := &model{n: n, b: make([]api.Bridge, len(n.Nodes)), f: make([]*fdb.Fdb, len(n.Nodes)), up: make([]bool, len(n.Segs))}
	for i := range n.Nodes {
		m.begin(i, n.Nodes[i].Rst)
	}
	return m
}

func (m *model) begin(i int, rst bool) {
	ports := slices.Clone(m.n.Nodes[i].Ports)
	for k := range ports {
		seg := m.segOf(lan.Place{Bridge: i, Port: k})
		ports[k].Shared = seg >= 0 && len(m.n.Segs[seg]) > 2
	}
	m.b[i], _ = bridge.New(m.n.Nodes[i].ID, rst, m.n.Times, m.n.Hold, ports)
	m.f[i] = fdb.New(m.n.Room, m.n.Age)
	for k := range ports {
		if seg := m.segOf(lan.Place{Bridge: i, Port: k}); seg >= 0 && m.up[seg] {
			bridge.Enable(&m.b[i], k, true)
		}
	}
	m.settle(i)
}

func (m *model) settle(i int) {
	bridge.Run(&m.b[i])
	relay.Flush(&m.b[i], m.f[i])
	for _, s := range m.b[i].Out {
		from := lan.Place{Bridge: i, Port: s.Port}
		if seg := m.segOf(from); seg >= 0 && m.up[seg] {
			for _, p := range m.n.Segs[seg] {
				if p != from {
					m.fly = append(m.fly, letter{p, llc.Wrap(ident.Addr(m.b[i].ID), s.Msg)})
				}
			}
		}
	}
	m.b[i].Out = nil
}

func (m *model) come(p lan.Place, frame []byte) {
	if _, msg, e := llc.Open(frame); e != api.OK {
		m.bad++
	} else {
		bridge.Hear(&m.b[p.Bridge], p.Port, msg)
		m.settle(p.Bridge)
	}
}

func (m *model) tick() {
	for i := range m.b {
		bridge.Tick(&m.b[i])
		m.f[i].Tick()
	}
	for i := range m.b {
		m.settle(i)
	}
}

func (m *model) deliver() bool {
	if len(m.fly) == 0 {
		return false
	}
	x := m.fly[0]
	m.fly = slices.Clone(m.fly[1:])
	m.come(x.to, x.frame)
	return true
}

// pick takes the k-th of what flies out, and puts it back behind all so many times.
func (m *model) pick(k, times int) bool {
	if k < 0 || k >= len(m.fly) {
		return false
	}
	x := m.fly[k]
	m.fly = slices.Concat(m.fly[:k], m.fly[k+1:], slices.Repeat([]letter{x}, times))
	return true
}

func (m *model) twice(k int) bool {
	if k < 0 || k >= len(m.fly) || len(m.fly) >= 10000 {
		return false
	}
	m.fly = append(slices.Clone(m.fly), m.fly[k])
	return true
}

func (m *model) link(seg int, on bool) bool {
	if seg < 0 || seg >= len(m.up) || m.up[seg] == on {
		return false
	}
	m.up[seg] = on
	var left []letter
	for _, x := range m.fly {
		if m.up[m.segOf(x.to)] {
			left = append(left, x)
		}
	}
	m.fly = left
	var order []int
	for _, p := range m.n.Segs[seg] {
		bridge.Enable(&m.b[p.Bridge], p.Port, on)
		if !slices.Contains(order, p.Bridge) {
			order = append(order, p.Bridge)
		}
	}
	for _, i := range order {
		m.settle(i)
	}
	return true
}

func (m *model) version(i int, rst bool) bool {
	if i < 0 || i >= len(m.b) {
		return false
	}
	m.begin(i, rst)
	return true
}

func (m *model) check(i, port int) bool {
	if i < 0 || i >= len(m.b) || !bridge.Check(&m.b[i], port) {
		return false
	}
	m.settle(i)
	return true
}

func (m *model) inject(p lan.Place, frame []byte) bool {
	seg := m.segOf(p)
	if seg < 0 || !m.up[seg] {
		return false
	}
	m.come(p, frame)
	return true
}

func (m *model) frame(seg int, src, dst uint64) []int {
	if seg < 0 || seg >= len(m.up) || !m.up[seg] {
		return nil
	}
	type sight struct {
		seg  int
		from lan.Place
	}
	seen, l := make([]int, len(m.up)), []sight{{seg, lan.Place{Bridge: -1}}}
	seen[seg]++
	for total := 1; len(l) > 0; l = l[1:] {
		for _, p := range m.n.Segs[l[0].seg] {
			if p == l[0].from {
				continue
			}
			for _, k := range relay.Out(m.b[p.Bridge], m.f[p.Bridge], p.Port, src, dst) {
				to := lan.Place{Bridge: p.Bridge, Port: k}
				seen[m.segOf(to)]++
				l = append(l, sight{m.segOf(to), to})
				if total++; total == 1000 {
					return seen
				}
			}
		}
	}
	return seen
}

// like tells in which way a net isn't as the model; "", if it is.
func (m *model) like(l *lan.Lan) string {
	for i, b := range l.Bridges() {
		if !samples.Same(b, m.b[i]) {
			return "bridges"
		}
		if !slices.Equal(l.Known(i), m.f[i].All()) {
			return "databases"
		}
	}
	for seg, up := range m.up {
		if l.Up(seg) != up {
			return "segments"
		}
	}
	if l.Flying() != len(m.fly) {
		return "what flies"
	}
	if l.Bad() != m.bad {
		return "bad frames"
	}
	return ""
}

// frames are some that may be injected: messages, and others.
func frames(d *samples.Dice) []byte {
	f := llc.Wrap(uint64(d.Upto(99)), samples.Msg(d))
	if d.Flip() && len(f) > 0 {
		f[d.Upto(len(f))] ^= byte(d.Upto(256))
		f = f[:d.Upto(len(f)+1)]
	}
	return f
}

// act does one thing to a net, and to its model: whether both told the same.
func act(d *samples.Dice, l *lan.Lan, m *model) bool {
	i, seg, k := d.Upto(len(m.b)+2)-1, d.Upto(len(m.up)+2)-1, d.Upto(len(m.fly)+2)-1
	p := lan.Place{Bridge: i, Port: d.Upto(6) - 1}
	on := d.Flip()
	switch d.Upto(14) {
	case 0:
		l.Tick()
		m.tick()
		return true
	case 1:
		return l.Drop(k) == m.pick(k, 0)
	case 2:
		return l.Later(k) == m.pick(k, 1)
	case 3:
		return l.Twice(k) == m.twice(k)
	case 4:
		on = on || d.Flip()
		return l.Link(seg, on) == m.link(seg, on)
	case 5:
		if d.Upto(4) > 0 {
			return true
		}
		return l.Version(i, on) == m.version(i, on)
	case 6:
		return l.Check(p.Bridge, p.Port) == m.check(p.Bridge, p.Port)
	case 7:
		f := frames(d)
		return l.Inject(p, f) == m.inject(p, f)
	case 8:
		src, dst := uint64(d.Upto(6)), uint64(d.Upto(6))
		return slices.Equal(l.Frame(seg, src, dst), m.frame(seg, src, dst))
	}
	return l.Deliver() == m.deliver()
}

// P20.1 to P20.7: whatever is done to a net, all of it is as the chapter says.
func TestModel(t *testing.T) {
	for seed := range uint64(150) {
		d := samples.New(2000 + seed)
		n := nets.Net(d)
		l, m := lan.New(n), newModel(n)
		if l == nil || m.like(l) != "" {
			t.Fatalf("seed %d: at first", seed)
		}
		for step := range 300 {
			if !act(d, l, m) {
				t.Fatalf("seed %d, step %d: another answer", seed, step)
			}
			if why := m.like(l); why != "" {
				t.Fatalf("seed %d, step %d: %s", seed, step, why)
			}
		}
	}
}
