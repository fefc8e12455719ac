package passage_test

import (
	"testing"

	"ford/api"
	"ford/passage"
	"ford/samples"
)

// rows does what the first row says that holds, and tells which one.
func rows(b *api.Bridge, i int) int {
	p := &b.Ports[i]
	f := &p.Flags
	switch s := p.States.Pass; {
	case s == api.PassDiscarding && f.Learn:
		f.Learning = true
		p.States.Pass = api.PassLearning
		return 1
	case s == api.PassLearning && !f.Learn:
		f.Learning, f.Forwarding = false, false
		p.States.Pass = api.PassDiscarding
		return 2
	case s == api.PassLearning && f.Forward:
		f.Forwarding = true
		p.States.Pass = api.PassForwarding
		return 3
	case s == api.PassForwarding && !f.Forward:
		f.Learning, f.Forwarding = false, false
		p.States.Pass = api.PassDiscarding
		return 4
	}
	return 0
}

// P16.1, P16.2: a step does what its rows say.
func TestRows(t *testing.T) {
	if f, wrong := samples.Against(passage.Step, rows, 4, 20000); wrong {
		t.Errorf("%+v", f)
	}
}

// P16.2: the example: two steps to forwarding, and one back.
func TestExample(t *testing.T) {
	b := api.Bridge{Ports: []api.Port{{Flags: api.Flags{Learn: true, Forward: true}}}}
	f := &b.Ports[0].Flags
	if !passage.Step(&b, 0) || !f.Learning || f.Forwarding {
		t.Errorf("%+v", f)
	}
	if !passage.Step(&b, 0) || !f.Learning || !f.Forwarding || b.Ports[0].States.Pass != api.PassForwarding {
		t.Errorf("%+v", f)
	}
	if passage.Step(&b, 0) {
		t.Error("a third step")
	}
	f.Learn = false
	if passage.Step(&b, 0) {
		t.Error("who forwards asks for Forward alone")
	}
}

// P16.3: who forwards has learned; with neither Learn nor Forward one step suffices to do neither.
func TestStill(t *testing.T) {
	d := samples.New(163)
	b := api.Bridge{Ports: make([]api.Port, 1)}
	p := &b.Ports[0]
	for range 10000 {
		p.Flags.Learn, p.Flags.Forward = d.Flip(), d.Flip()
		passage.Step(&b, 0)
		if f := p.Flags; f.Forwarding && !f.Learning || !f.Learn && !f.Forward && f.Learning {
			t.Fatalf("%+v", f)
		}
	}
}
