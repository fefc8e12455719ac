package sim_test

import (
	"math"
	"slices"
	"testing"

	"ford/api"
	"ford/lan"
	"ford/llc"
	"ford/nets"
	"ford/samples"
	"ford/sim"
)

// ring is three bridges, each two on a segment of their own.
func ring() lan.Net { return nets.Of(3, []int{0, 1}, []int{1, 2}, []int{0, 2}) }

// P21.1: the numbers of the kinds.
func TestKinds(t *testing.T) {
	got := []int{sim.Tick, sim.Deliver, sim.Drop, sim.Later, sim.Twice, sim.Link, sim.Version, sim.Check, sim.Inject, sim.Frame, sim.Kinds}
	for k, kind := range got {
		if kind != k {
			t.Errorf("kind %d is %d", k, kind)
		}
	}
	if sim.Most != 20000 {
		t.Error("Most")
	}
}

// do is what an act says, by the net's own calls.
func do(l *lan.Lan, a sim.Act) (bool, []int) {
	switch a.Kind {
	case sim.Tick:
		l.Tick()
		return true, nil
	case sim.Deliver:
		return l.Deliver(), nil
	case sim.Drop:
		return l.Drop(a.A), nil
	case sim.Later:
		return l.Later(a.A), nil
	case sim.Twice:
		return l.Twice(a.A), nil
	case sim.Link:
		return l.Link(a.A, a.B != 0), nil
	case sim.Version:
		return l.Version(a.A, a.B != 0), nil
	case sim.Check:
		return l.Check(a.A, a.B), nil
	case sim.Inject:
		return l.Inject(lan.Place{Bridge: a.A, Port: a.B}, a.Data), nil
	case sim.Frame:
		return true, l.Frame(a.A, uint64(a.B), uint64(a.C))
	}
	return false, nil
}

// P21.1: each act does what its kind says, and tells what that tells.
func TestDo(t *testing.T) {
	met := map[int]int{}
	for seed := range uint64(60) {
		d := samples.New(2100 + seed)
		n := nets.Net(d)
		l, other := lan.New(n), lan.New(n)
		for seg := range n.Segs {
			l.Link(seg, true)
			other.Link(seg, true)
		}
		for _, a := range nets.Script(d, n, 300, false) {
			did, seen := sim.Do(l, a)
			want, wantSeen := do(other, a)
			if did != want || !slices.Equal(seen, wantSeen) || !nets.Same(l, other, len(n.Segs)) {
				t.Fatalf("seed %d: %+v: %v %v, not %v %v", seed, a, did, seen, want, wantSeen)
			}
			if did {
				met[a.Kind]++
			}
		}
	}
	for kind := range sim.Kinds {
		if met[kind] < 20 {
			t.Errorf("kind %d is hardly done", kind)
		}
	}
}

// P21.1: what isn't there isn't done; numbers of stations have no sign.
func TestDoEdges(t *testing.T) {
	n := ring()
	l, other := lan.New(n), lan.New(n)
	for _, a := range []sim.Act{
		{Kind: -1}, {Kind: sim.Kinds}, {Kind: math.MaxInt}, {Kind: math.MinInt}, {Kind: sim.Deliver}, {Kind: sim.Drop}, {Kind: sim.Twice, A: -1},
		{Kind: sim.Link, A: 3, B: 1}, {Kind: sim.Link, A: 0, B: 0}, {Kind: sim.Version, A: -1}, {Kind: sim.Check, A: 0, B: 9}, {Kind: sim.Inject, A: 0, B: 0},
	} {
		if did, seen := sim.Do(l, a); did || len(seen) != 0 || !nets.Same(l, other, 3) {
			t.Errorf("%+v: %v %v", a, did, seen)
		}
	}
	if did, seen := sim.Do(l, sim.Act{Kind: sim.Frame, A: 9}); !did || len(seen) != 0 {
		t.Error("Frame on no segment", did, seen)
	}
	if did, _ := sim.Do(l, sim.Act{Kind: sim.Link, A: 0, B: -5}); !did || !l.Up(0) {
		t.Error("B isn't 0")
	}
	if did, seen := sim.Do(l, sim.Act{Kind: sim.Frame, A: 0, B: -1, C: -1}); !did || !slices.Equal(seen, []int{1, 0, 0}) {
		t.Error("Frame", did, seen)
	}
}

// P21.2: all are done, in order, and counted.
func TestPlay(t *testing.T) {
	n := ring()
	l, other := lan.New(n), lan.New(n)
	acts := []sim.Act{
		{Kind: sim.Link, A: 0, B: 1}, {Kind: sim.Link, A: 0, B: 1}, {Kind: sim.Deliver}, {Kind: sim.Drop, A: 99}, {Kind: 77}, {Kind: sim.Tick}, {Kind: sim.Frame, A: 2},
		{Kind: sim.Inject, A: 0, B: 0, Data: llc.Wrap(9, api.Msg{Kind: api.Tcn})}, {Kind: sim.Link, A: 0},
	}
	if got := sim.Play(l, acts); got != 6 {
		t.Error(got)
	}
	for _, a := range acts {
		do(other, a)
	}
	if !nets.Same(l, other, 3) {
		t.Error("not in order")
	}
	if sim.Play(l, nil) != 0 || !nets.Same(l, other, 3) {
		t.Error("no acts")
	}
}

// P21.2: all that flies is delivered, answers, too.
func TestDrain(t *testing.T) {
	n := ring()
	l, other := lan.New(n), lan.New(n)
	if many, empty := sim.Drain(l); many != 0 || !empty {
		t.Error(many, empty)
	}
	for seg := range 3 {
		l.Link(seg, true)
		other.Link(seg, true)
	}
	want := 0
	for other.Deliver() {
		want++
	}
	if many, empty := sim.Drain(l); many != want || !empty || l.Flying() != 0 || !nets.Same(l, other, 3) {
		t.Errorf("%d %v, not %d", many, empty, want)
	}
}

// many is a net in which more flies than Most: a segment of many bridges' ports, that propose all at once, and begin anew.
func many(least int) *lan.Lan {
	var seg []int
	for k := range 62 {
		seg = append(seg, k%31)
	}
	n := nets.Of(31, seg)
	n.Hold = 10
	l := lan.New(n)
	l.Link(0, true)
	for k := 0; l.Flying() < least; k++ {
		l.Version(k%31, true)
	}
	return l
}

// P21.2: no more than Most are delivered at once.
func TestDrainMost(t *testing.T) {
	l := many(sim.Most + 5)
	flying := l.Flying()
	got, empty := sim.Drain(l)
	if got != sim.Most || empty != (l.Flying() == 0) || empty {
		t.Errorf("%d of %d, %v", got, flying, empty)
	}
}

// P21.2: in a quiet time each second is a tick, and a drain.
func TestQuiet(t *testing.T) {
	n := ring()
	l, other := lan.New(n), lan.New(n)
	if got := sim.Raise(l, 3); got != 3 {
		t.Error(got)
	}
	for seg := range 3 {
		other.Link(seg, true)
	}
	for _, sec := range []int{0, -1, math.MinInt} {
		if !sim.Quiet(l, sec) || !nets.Same(l, other, 3) {
			t.Errorf("%d seconds", sec)
		}
	}
	for _, sec := range []int{1, 2, 40} {
		if !sim.Quiet(l, sec) {
			t.Errorf("%d seconds: not quiet", sec)
		}
		for range sec {
			other.Tick()
			for other.Deliver() {
			}
		}
		if !nets.Same(l, other, 3) {
			t.Errorf("%d seconds: another net", sec)
		}
	}
}

// P21.2: a time in which something flies on behind a second wasn't quiet, whatever comes then.
func TestQuietNot(t *testing.T) {
	l := many(2*sim.Most + 5)
	if sim.Quiet(l, 1) || l.Flying() == 0 {
		t.Errorf("%d fly on", l.Flying())
	}
	if sim.Quiet(l, 10) || l.Flying() != 0 {
		t.Errorf("at last %d fly on", l.Flying())
	}
	if !sim.Quiet(l, 2) {
		t.Error("it isn't quiet, though nothing flies on")
	}
}

// P21.2: segments are raised in order, as many as there are; how many were down.
func TestRaise(t *testing.T) {
	n := ring()
	l, other := lan.New(n), lan.New(n)
	for _, segs := range []int{0, -1, math.MinInt} {
		if sim.Raise(l, segs) != 0 || !nets.Same(l, other, 3) {
			t.Errorf("%d segments", segs)
		}
	}
	other.Link(0, true)
	if sim.Raise(l, 1) != 1 || !nets.Same(l, other, 3) {
		t.Error("one segment")
	}
	other.Link(1, true)
	other.Link(2, true)
	if sim.Raise(l, 9) != 2 || !nets.Same(l, other, 3) {
		t.Error("nine segments")
	}
	if sim.Raise(l, math.MaxInt) != 0 || !nets.Same(l, other, 3) {
		t.Error("all are up")
	}
}

// The example: two bridges on one segment.
func TestExample(t *testing.T) {
	l := lan.New(nets.Of(2, []int{0, 1}))
	if sim.Raise(l, 1) != 1 || !sim.Quiet(l, 40) {
		t.Error("the example")
	}
}

// P21.3: a script in two parts does what it does as one.
func TestParts(t *testing.T) {
	for seed := range uint64(30) {
		d := samples.New(2130 + seed)
		n := nets.Net(d)
		l, other := lan.New(n), lan.New(n)
		sim.Raise(l, len(n.Segs))
		sim.Raise(other, len(n.Segs))
		acts := nets.Script(d, n, 200, false)
		cut := d.Upto(len(acts))
		if one, two := sim.Play(l, acts), sim.Play(other, acts[:cut])+sim.Play(other, acts[cut:]); one != two || !nets.Same(l, other, len(n.Segs)) {
			t.Fatalf("seed %d: %d in one, %d in two", seed, one, two)
		}
	}
}

// P21.3: in a quiet time all is delivered in each second.
func TestQuietAlways(t *testing.T) {
	for seed := range uint64(60) {
		d := samples.New(2160 + seed)
		n := nets.Net(d)
		l := lan.New(n)
		sim.Raise(l, len(n.Segs))
		sim.Play(l, nets.Script(d, n, 100, false))
		if !sim.Quiet(l, 30) || l.Flying() != 0 {
			t.Fatalf("seed %d: %d fly", seed, l.Flying())
		}
	}
}
