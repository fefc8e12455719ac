package edge_test

import (
	"testing"

	"ford/api"
	"ford/edge"
	"ford/samples"
)

// rows does what the first row says that holds, and tells which one.
func rows(b *api.Bridge, i int) int {
	p := &b.Ports[i]
	f := &p.Flags
	switch s := p.States.Edge; {
	case s == api.EdgeIs && (!f.OperEdge || !(p.Enabled || p.Admin)):
		f.OperEdge = false
		p.States.Edge = api.EdgeNot
		return 1
	case s == api.EdgeNot && ((!p.Enabled && p.Admin) || (p.Clocks.EdgeDelay == 0 && p.Auto && f.SendRst && f.Proposing)):
		f.OperEdge = true
		p.States.Edge = api.EdgeIs
		return 2
	}
	return 0
}

// P11.1, P11.2: a step does what its rows say.
func TestRows(t *testing.T) {
	if f, wrong := samples.Against(edge.Step, rows, 2, 20000); wrong {
		t.Errorf("%+v", f)
	}
}

// P11.2: the example; and each condition of it is needed.
func TestExample(t *testing.T) {
	for missing := -1; missing < 5; missing++ {
		p := api.Port{Enabled: true, Auto: true, Flags: api.Flags{SendRst: true, Proposing: true}, States: api.States{Edge: api.EdgeNot}}
		switch missing {
		case 0:
			p.Auto = false
		case 1:
			p.Flags.SendRst = false
		case 2:
			p.Flags.Proposing = false
		case 3:
			p.Clocks.EdgeDelay = 1
		case 4:
			p.States.Edge = 2
		}
		b := api.Bridge{Ports: []api.Port{{}, p}}
		want := p
		if missing < 0 {
			want.Flags.OperEdge, want.States.Edge = true, api.EdgeIs
		}
		if got := edge.Step(&b, 1); got != (missing < 0) || b.Ports[1] != want {
			t.Errorf("%d: %v %+v", missing, got, b.Ports[1])
		}
	}
}

// P11.3: behind two steps of a port that is Enabled, or Admin, there is no third one; an Admin one that isn't Enabled is an edge then.
func TestRest(t *testing.T) {
	d := samples.New(11)
	for range 5000 {
		b := samples.Bridge(d)
		p := &b.Ports[0]
		p.States.Edge = d.Upto(2)
		if !p.Enabled && !p.Admin {
			continue
		}
		edge.Step(&b, 0)
		edge.Step(&b, 0)
		if !p.Enabled && !p.Flags.OperEdge {
			t.Fatalf("%+v is no edge", p)
		}
		if edge.Step(&b, 0) {
			t.Fatalf("%+v steps a third time", p)
		}
	}
}
