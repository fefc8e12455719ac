package sel_test

import (
	"testing"

	"ford/api"
	"ford/samples"
	"ford/sel"
)

const low48 = 1<<48 - 1

// less holds the first parts of two vectors against each other.
func less(a, b api.Vec, parts int) bool {
	for _, x := range [][2]uint64{{a.Root, b.Root}, {uint64(a.Cost), uint64(b.Cost)}, {a.Bridge, b.Bridge}, {uint64(a.Port), uint64(b.Port)}, {uint64(a.Rx), uint64(b.Rx)}}[:parts] {
		if x[0] != x[1] {
			return x[0] < x[1]
		}
	}
	return false
}

// root is the least of all that there is.
func root(b api.Bridge) (api.Vec, int) {
	v, port := api.Vec{Root: b.ID, Bridge: b.ID}, -1
	for i, p := range b.Ports {
		w := p.Vec
		w.Cost, w.Rx = uint32(min(uint64(w.Cost)+uint64(p.Cost), 1<<32-1)), p.ID
		if p.Is == api.IsReceived && p.Vec.Bridge&low48 != b.ID&low48 && less(w, v, 5) {
			v, port = w, i
		}
	}
	return v, port
}

// role gives a port its role, and tells by which line of the chapter.
func role(b *api.Bridge, i int) int {
	p := &b.Ports[i]
	f := &p.Flags
	alike := !less(p.Vec, p.Designated, 4) && !less(p.Designated, p.Vec, 4)
	switch {
	case p.Is == api.IsDisabled:
		p.Selected = api.RoleDisabled
		return 1
	case p.Is == api.IsAged:
		p.Selected, f.UpdtInfo = api.RoleDesignated, true
		return 2
	case p.Is == api.IsMine && (!alike || p.Times != p.DesTimes):
		p.Selected, f.UpdtInfo = api.RoleDesignated, true
		return 3
	case p.Is == api.IsMine:
		p.Selected = api.RoleDesignated
		return 4
	case p.Is == api.IsReceived && b.RootPort == i:
		p.Selected, f.UpdtInfo = api.RoleRoot, false
		return 5
	case p.Is == api.IsReceived && less(p.Designated, p.Vec, 4):
		p.Selected, f.UpdtInfo = api.RoleDesignated, true
		return 6
	case p.Is == api.IsReceived && p.Vec.Bridge&low48 == b.ID&low48:
		p.Selected, f.UpdtInfo = api.RoleBackup, false
		return 7
	case p.Is == api.IsReceived:
		p.Selected, f.UpdtInfo = api.RoleAlternate, false
		return 8
	}
	return 0
}

// rows does what the chapter says, and tells by which line port i got its role.
func rows(b *api.Bridge, i int) int {
	asked := false
	for k := range b.Ports {
		asked = asked || b.Ports[k].Flags.Reselect
		b.Ports[k].Flags.Reselect = false
	}
	if !asked {
		return 0
	}
	b.Root, b.RootPort = root(*b)
	b.RootT = b.Times
	if b.RootPort >= 0 {
		b.RootT = b.Ports[b.RootPort].Times
		b.RootT.Age++
	}
	line := 0
	for k := range b.Ports {
		p := &b.Ports[k]
		p.Designated = api.Vec{Root: b.Root.Root, Cost: b.Root.Cost, Bridge: b.ID, Port: p.ID}
		p.DesTimes = api.Times{Age: b.RootT.Age, Max: b.RootT.Max, Hello: b.Times.Hello, Delay: b.RootT.Delay}
		if l := role(b, k); k == i {
			line = l
		}
		p.Flags.Selected = true
	}
	return line
}

// P14.2: a step does what the chapter says.
func TestStepSamples(t *testing.T) {
	step := func(b *api.Bridge, i int) bool {
		// Ports often have what they are to have already.
		if b.Ports[i].Is == api.IsMine && b.Ports[i].Enabled {
			v, _ := root(*b)
			b.Ports[i].Vec = api.Vec{Root: v.Root, Cost: v.Cost, Bridge: b.ID, Port: b.Ports[i].ID}
			if _, port := root(*b); port < 0 {
				b.Ports[i].Times = b.Times
			}
		}
		return sel.Step(b)
	}
	want := func(b *api.Bridge, i int) int {
		if b.Ports[i].Is == api.IsMine && b.Ports[i].Enabled {
			v, port := root(*b)
			b.Ports[i].Vec = api.Vec{Root: v.Root, Cost: v.Cost, Bridge: b.ID, Port: b.Ports[i].ID}
			if port < 0 {
				b.Ports[i].Times = b.Times
			}
		}
		return rows(b, i)
	}
	if f, wrong := samples.Against(step, want, 8, 50000); wrong {
		t.Errorf("%+v", f)
	}
}

// P14.1: the least of what there is, and where it was heard; nothing is changed.
func TestRootSamples(t *testing.T) {
	d, own := samples.New(141), 0
	for range 30000 {
		b := samples.Bridge(d)
		for i := range b.Ports {
			b.Ports[i].Is = d.Among(api.IsReceived, api.IsReceived, b.Ports[i].Is)
		}
		ahead := samples.Copy(b)
		v, port := sel.Root(b)
		if wv, wp := root(b); v != wv || port != wp {
			t.Fatalf("%+v: %v %d, not %v %d", b, v, port, wv, wp)
		}
		if !samples.Same(b, ahead) {
			t.Fatal("changed")
		}
		if port < 0 {
			own++
		}
	}
	if own < 100 || own > 29900 {
		t.Error("own is best", own)
	}
}

// heard is a port that heard a vector.
func heard(id uint16, cost uint32, v api.Vec) api.Port {
	return api.Port{ID: id, Cost: cost, Enabled: true, Is: api.IsReceived, Vec: v, Times: api.Times{Age: 3, Max: 30, Hello: 5, Delay: 20}}
}

// five is a bridge with number 5, and with ports.
func five(l ...api.Port) api.Bridge {
	return api.Bridge{ID: 5, Rst: true, Times: api.Times{Max: 20, Hello: 2, Delay: 15}, Hold: 6, RootPort: -1, Ports: l}
}

// P14.1: edges of what is offered.
func TestRoot(t *testing.T) {
	good := heard(1, 10, api.Vec{Root: 3, Cost: 20, Bridge: 4, Port: 7, Rx: 99})
	self := heard(1, 0, api.Vec{Root: 3, Bridge: 0x7000<<48 | 5})
	like := heard(2, 0, api.Vec{Root: 5, Cost: 0, Bridge: 5 | 1<<48})
	dear := heard(1, 1<<32-1, api.Vec{Root: 3, Cost: 9, Bridge: 4})
	mine, far := good, good
	mine.Is = api.IsMine
	far.Vec.Root = 6
	for _, c := range []struct {
		name string
		l    []api.Port
		v    api.Vec
		port int
	}{
		{"no ports", nil, api.Vec{Root: 5, Bridge: 5}, -1},
		{"heard", []api.Port{good}, api.Vec{Root: 3, Cost: 30, Bridge: 4, Port: 7, Rx: 1}, 0},
		{"not received", []api.Port{mine}, api.Vec{Root: 5, Bridge: 5}, -1},
		{"worse", []api.Port{far}, api.Vec{Root: 5, Bridge: 5}, -1},
		{"its own, set otherwise", []api.Port{self}, api.Vec{Root: 5, Bridge: 5}, -1},
		{"its own address", []api.Port{like}, api.Vec{Root: 5, Bridge: 5}, -1},
		{"like ones", []api.Port{mine, good, good}, api.Vec{Root: 3, Cost: 30, Bridge: 4, Port: 7, Rx: 1}, 1},
		{"by Rx alone", []api.Port{heard(9, 10, good.Vec), heard(8, 10, good.Vec)}, api.Vec{Root: 3, Cost: 30, Bridge: 4, Port: 7, Rx: 8}, 1},
		{"as dear as may be", []api.Port{dear}, api.Vec{Root: 3, Cost: 1<<32 - 1, Bridge: 4, Rx: 1}, 0},
		{"cheaper", []api.Port{dear, good}, api.Vec{Root: 3, Cost: 30, Bridge: 4, Port: 7, Rx: 1}, 1},
	} {
		if v, port := sel.Root(five(c.l...)); v != c.v || port != c.port {
			t.Errorf("%s: %v %d, not %v %d", c.name, v, port, c.v, c.port)
		}
	}
}

// P14.2: the example, and what ports are to tell then.
func TestExample(t *testing.T) {
	b := five(api.Port{ID: 1, Enabled: true, Is: api.IsAged}, heard(2, 10, api.Vec{Root: 3, Cost: 20, Bridge: 4}), api.Port{ID: 3})
	if sel.Step(&b) {
		t.Fatal("none asks")
	}
	b.Ports[2].Flags.Reselect = true
	if !sel.Step(&b) {
		t.Fatal("one asks")
	}
	if b.Root != (api.Vec{Root: 3, Cost: 30, Bridge: 4, Rx: 2}) || b.RootPort != 1 || b.RootT != (api.Times{Age: 4, Max: 30, Hello: 5, Delay: 20}) {
		t.Errorf("%+v", b)
	}
	for i, want := range []int{api.RoleDesignated, api.RoleRoot, api.RoleDisabled} {
		p := b.Ports[i]
		if p.Selected != want || p.Role != 0 || p.Flags != (api.Flags{Selected: true, UpdtInfo: i == 0}) {
			t.Errorf("port %d: %+v", i, p)
		}
		if p.Designated != (api.Vec{Root: 3, Cost: 30, Bridge: 5, Port: uint16(i + 1)}) || p.DesTimes != (api.Times{Age: 4, Max: 30, Hello: 2, Delay: 20}) {
			t.Errorf("port %d: %+v", i, p)
		}
	}
	if sel.Step(&b) {
		t.Error("none asks any more")
	}
}

// P14.2: whoever says where its information comes from wrongly keeps its role.
func TestOtherIs(t *testing.T) {
	for _, is := range []int{-1, 4, 1 << 40} {
		b := five(api.Port{Is: is, Selected: 77, Flags: api.Flags{Reselect: true, UpdtInfo: true}})
		if !sel.Step(&b) || b.Ports[0].Selected != 77 || b.Ports[0].Flags != (api.Flags{Selected: true, UpdtInfo: true}) {
			t.Errorf("%d: %+v", is, b.Ports[0])
		}
	}
	b := five()
	if sel.Step(&b) {
		t.Error("no ports")
	}
}

// P14.3: one port at most is to be the root's; nobody offers less than what is taken.
func TestOneRoot(t *testing.T) {
	d := samples.New(143)
	for range 10000 {
		b := samples.Bridge(d)
		b.Ports[0].Flags.Reselect = true
		sel.Step(&b)
		roots := 0
		for i, p := range b.Ports {
			if p.Is <= api.IsReceived && p.Selected == api.RoleRoot {
				roots++
				if i != b.RootPort {
					t.Fatalf("port %d is to be root, not %d", i, b.RootPort)
				}
			}
			if p.Is == api.IsReceived && p.Vec.Bridge&low48 != b.ID&low48 && p.Vec.Root < b.Root.Root {
				t.Fatalf("%v is offered, %v taken", p.Vec, b.Root)
			}
		}
		if roots > 1 {
			t.Fatalf("%d roots", roots)
		}
	}
}
