package topo_test

import (
	"slices"
	"testing"

	"ford/api"
	"ford/samples"
	"ford/topo"
)

// begin begins a change.
func begin(b *api.Bridge, p *api.Port) {
	if p.Clocks.Tc != 0 {
		return
	}
	if p.Flags.SendRst {
		p.Clocks.Tc = b.Times.Hello + 1
		p.Flags.NewInfo = true
	} else {
		p.Clocks.Tc = b.Times.Max + b.Times.Delay
	}
}

// tell tells all others.
func tell(b *api.Bridge, i int) {
	for k := range b.Ports {
		if k != i {
			b.Ports[k].Flags.TcProp = true
		}
	}
}

// clear clears the four.
func clear(p *api.Port) {
	f := &p.Flags
	f.RcvdTc, f.RcvdTcn, f.RcvdTcAck, f.TcProp = false, false, false, false
	p.States.Topo = api.TopoLearning
}

// told is what the eighth row does.
func told(b *api.Bridge, i int) {
	p := &b.Ports[i]
	p.Flags.RcvdTc, p.Flags.RcvdTcn = false, false
	if p.Role == api.RoleDesignated {
		p.Flags.TcAck = true
	}
	tell(b, i)
}

// rows does what the first row says that holds, and tells which one.
func rows(b *api.Bridge, i int) int {
	p := &b.Ports[i]
	f, s := &p.Flags, p.States.Topo
	counts := p.Role == api.RoleRoot || p.Role == api.RoleDesignated
	four := f.RcvdTc || f.RcvdTcn || f.RcvdTcAck || f.TcProp
	switch {
	case f.Flush:
		b.Flushed = append(slices.Clone(b.Flushed), i)
		f.Flush = false
		return 1
	case s == api.TopoInactive && f.Learn:
		clear(p)
		return 2
	case s == api.TopoLearning && counts && f.Forward && !f.OperEdge:
		begin(b, p)
		tell(b, i)
		f.NewInfo = true
		p.States.Topo = api.TopoActive
		return 3
	case s == api.TopoLearning && !counts && !f.Learn && !f.Learning && !four:
		f.Flush, f.TcAck = true, false
		p.Clocks.Tc = 0
		p.States.Topo = api.TopoInactive
		return 4
	case s == api.TopoLearning && four:
		clear(p)
		return 5
	case s == api.TopoActive && (!counts || f.OperEdge):
		clear(p)
		return 6
	case s == api.TopoActive && f.RcvdTcn:
		begin(b, p)
		told(b, i)
		return 7
	case s == api.TopoActive && f.RcvdTc:
		told(b, i)
		return 8
	case s == api.TopoActive && f.TcProp:
		begin(b, p)
		f.Flush, f.TcProp = true, false
		return 9
	case s == api.TopoActive && f.RcvdTcAck:
		p.Clocks.Tc = 0
		f.RcvdTcAck = false
		return 10
	}
	return 0
}

// P17.1, P17.2: a step does what its rows say.
func TestRows(t *testing.T) {
	if f, wrong := samples.Against(topo.Step, rows, 10, 50000); wrong {
		t.Errorf("%+v", f)
	}
}

// two is a bridge of two ports that have a part in the tree.
func two() api.Bridge {
	p := api.Port{Enabled: true, Role: api.RoleDesignated, States: api.States{Topo: api.TopoActive}}
	return api.Bridge{ID: 5, Rst: true, Times: api.Times{Max: 20, Hello: 2, Delay: 15}, Hold: 6, RootPort: -1, Ports: []api.Port{p, p}}
}

// P17.2: the example.
func TestExample(t *testing.T) {
	b := two()
	b.Ports[0].Flags.RcvdTc = true
	if !topo.Step(&b, 0) || b.Ports[0].Flags != (api.Flags{TcAck: true}) || b.Ports[1].Flags != (api.Flags{TcProp: true}) {
		t.Errorf("%+v", b.Ports)
	}
	if topo.Step(&b, 0) {
		t.Error("a second step")
	}
}

// P17.2: for how long a change is told, by the protocol that is spoken; one that is going on goes on.
func TestBegin(t *testing.T) {
	for _, c := range []struct {
		rst      bool
		tc, want int
		news     bool
	}{{true, 0, 3, true}, {false, 0, 35, false}, {true, 1, 1, false}, {false, 7, 7, false}} {
		b := two()
		p := &b.Ports[0]
		p.Flags.SendRst, p.Flags.TcProp, p.Clocks.Tc = c.rst, true, c.tc
		if !topo.Step(&b, 0) || p.Clocks.Tc != c.want || p.Flags.NewInfo != c.news || !p.Flags.Flush || p.Flags.TcProp {
			t.Errorf("%+v: %+v", c, p)
		}
	}
}

// P17.2: what is to be flushed stands in order; a list of it that others hold stays as it is.
func TestFlushed(t *testing.T) {
	b := two()
	held := make([]int, 1, 9)
	held[0] = 7
	b.Flushed = held
	b.Ports[0].Flags.Flush, b.Ports[1].Flags.Flush = true, true
	if !topo.Step(&b, 1) || !topo.Step(&b, 0) || !slices.Equal(b.Flushed, []int{7, 1, 0}) {
		t.Error(b.Flushed)
	}
	if held[:2][1] != 0 {
		t.Error("another one's list is changed")
	}
}

// P17.3: a port's change is told to all others, and never back; of each port that is told, and counts, entries are flushed.
func TestTold(t *testing.T) {
	for from := range 4 {
		b := two()
		b.Ports = append(b.Ports, b.Ports[0], b.Ports[0])
		b.Ports[3].Role = api.RoleAlternate
		b.Ports[from].States.Topo = api.TopoLearning
		b.Ports[from].Role = api.RoleRoot
		b.Ports[from].Flags.Forward = true
		for n := 0; n < 20; n++ {
			for i := range b.Ports {
				topo.Step(&b, i)
			}
		}
		for i, p := range b.Ports {
			flushed := slices.Contains(b.Flushed, i)
			if i == from && (flushed || p.Flags.TcProp) {
				t.Errorf("it is told back to %d: %+v", i, p)
			}
			if i != from && !flushed {
				t.Errorf("nothing is flushed at %d: %+v", i, p)
			}
		}
	}
}
