package vec_test

import (
	"math"
	"testing"

	"ford/api"
	"ford/ident"
	"ford/vec"
)

var middle = api.Vec{Root: 5, Cost: 5, Bridge: 5, Port: 5, Rx: 5}

// rising are vectors in their order: each part outweighs all behind it.
func rising() []api.Vec {
	return []api.Vec{
		{},
		{Rx: 1},
		{Root: 4, Cost: 9, Bridge: 9, Port: 9, Rx: 9},
		{Root: 5, Cost: 4, Bridge: 9, Port: 9, Rx: 9},
		{Root: 5, Cost: 5, Bridge: 4, Port: 9, Rx: 9},
		{Root: 5, Cost: 5, Bridge: 5, Port: 4, Rx: 9},
		{Root: 5, Cost: 5, Bridge: 5, Port: 5, Rx: 4},
		middle,
		{Root: 5, Cost: 5, Bridge: 5, Port: 5, Rx: 6},
		{Root: 5, Cost: 5, Bridge: 5, Port: 6, Rx: 1},
		{Root: 5, Cost: 5, Bridge: 6, Port: 1, Rx: 1},
		{Root: 5, Cost: 6, Bridge: 1, Port: 1, Rx: 1},
		{Root: 6, Cost: 1, Bridge: 1, Port: 1, Rx: 1},
		{Root: 1 << 63, Cost: 0},
		{Root: 1 << 63, Cost: 1 << 31},
		{Root: 1 << 63, Cost: 1 << 31, Bridge: 1 << 63},
		{Root: 1 << 63, Cost: 1 << 31, Bridge: 1 << 63, Port: 1 << 15},
		{Root: 1 << 63, Cost: 1 << 31, Bridge: 1 << 63, Port: 1 << 15, Rx: 1 << 15},
		{Root: math.MaxUint64, Cost: math.MaxUint32, Bridge: math.MaxUint64, Port: math.MaxUint16, Rx: math.MaxUint16},
	}
}

// P3.1, P3.4: vectors stand in one order, by their parts in turn.
func TestCmp(t *testing.T) {
	l := rising()
	for i, a := range l {
		for k, b := range l {
			want := 0
			if i < k {
				want = -1
			} else if i > k {
				want = 1
			}
			if got := vec.Cmp(a, b); got != want {
				t.Errorf("Cmp(%v, %v) is %d, not %d", a, b, got, want)
			}
			if got := vec.Better(a, b); got != (i < k) {
				t.Errorf("Better(%v, %v) is %v", a, b, got)
			}
		}
	}
}

// P3.1: the example: a lesser cost is better, a lesser root better still.
func TestCmpExample(t *testing.T) {
	v := api.Vec{Root: 1, Cost: 5}
	if !vec.Better(v, api.Vec{Root: 1, Cost: 6}) || vec.Better(v, api.Vec{Root: 0, Cost: 9}) {
		t.Error("the example")
	}
}

// change is a vector with one part changed.
func change(v api.Vec, part int) api.Vec {
	switch part {
	case 0:
		v.Root++
	case 1:
		v.Cost++
	case 2:
		v.Bridge++
	case 3:
		v.Port++
	case 4:
		v.Rx++
	}
	return v
}

// P3.1: two are the same, if their first four parts are; Rx plays no part.
func TestSame(t *testing.T) {
	if !vec.Same(middle, middle) || !vec.Same(api.Vec{}, api.Vec{}) {
		t.Error("one is not the same as itself")
	}
	for part := range 5 {
		v := change(middle, part)
		if vec.Same(v, middle) != (part == 4) || vec.Same(middle, v) != (part == 4) {
			t.Errorf("part %d", part)
		}
	}
	// Parts of like sum, or changed both ways, are no like vectors.
	if vec.Same(api.Vec{Root: 1, Cost: 2}, api.Vec{Root: 2, Cost: 1}) {
		t.Error("two parts changed")
	}
}

// P3.2: superior is what is less by the first four parts, and all that the last teller tells.
func TestSuperior(t *testing.T) {
	p := api.Vec{Root: 50, Cost: 50, Bridge: ident.Bridge(5, 50), Port: ident.Port(32, 50), Rx: 50}
	for _, c := range []struct {
		name string
		with func(v *api.Vec)
		want bool
	}{
		{"like", func(v *api.Vec) {}, true},
		{"lesser root", func(v *api.Vec) { v.Root, v.Bridge = 49, ident.Bridge(9, 9) }, true},
		{"lesser cost", func(v *api.Vec) { v.Cost, v.Bridge = 49, ident.Bridge(9, 9) }, true},
		{"lesser bridge", func(v *api.Vec) { v.Bridge, v.Port = ident.Bridge(5, 49), 60000 }, true},
		{"lesser bridge by its first part", func(v *api.Vec) { v.Bridge = ident.Bridge(4, 99) }, true},
		{"lesser port", func(v *api.Vec) { v.Port-- }, true},
		{"greater root, same teller", func(v *api.Vec) { v.Root = 99 }, true},
		{"greater cost, same teller", func(v *api.Vec) { v.Cost = 99 }, true},
		{"same teller, bridge set otherwise", func(v *api.Vec) { v.Bridge = ident.Bridge(99, 50) }, true},
		{"same teller, port set otherwise", func(v *api.Vec) { v.Port = ident.Port(240, 50) }, true},
		{"greater port", func(v *api.Vec) { v.Port++ }, false},
		{"greater bridge", func(v *api.Vec) { v.Bridge++ }, false},
		{"greater root, other port", func(v *api.Vec) { v.Root, v.Port = 51, 1 }, false},
		{"greater root, other bridge", func(v *api.Vec) { v.Root, v.Bridge = 51, 1 }, false},
		{"greater cost, other bridge", func(v *api.Vec) { v.Cost, v.Bridge = 51, 1 }, false},
		{"greater bridge, lesser port", func(v *api.Vec) { v.Bridge, v.Port = v.Bridge+1, 1 }, false},
	} {
		m := p
		c.with(&m)
		for _, rx := range []uint16{0, 50, 99} {
			m.Rx = rx
			if got := vec.Superior(m, p); got != c.want {
				t.Errorf("%s, Rx %d: %v", c.name, rx, got)
			}
		}
	}
}

// P3.2: a lesser Rx alone makes nothing superior.
func TestSuperiorRx(t *testing.T) {
	m := api.Vec{Root: 9, Cost: 9, Bridge: 8, Port: 9, Rx: 0}
	if vec.Superior(m, middle) {
		t.Error("Rx counts")
	}
}

// P3.3: a port adds its cost, as far as there are numbers, and its own number.
func TestThrough(t *testing.T) {
	for _, c := range []struct{ has, more, want uint32 }{
		{0, 0, 0},
		{20, 10, 30},
		{math.MaxUint32 - 1, 1, math.MaxUint32},
		{math.MaxUint32, 0, math.MaxUint32},
		{math.MaxUint32, 1, math.MaxUint32},
		{5, math.MaxUint32, math.MaxUint32},
		{1 << 31, 1 << 31, math.MaxUint32},
		{math.MaxUint32, math.MaxUint32, math.MaxUint32},
	} {
		v := api.Vec{Root: 1, Cost: c.has, Bridge: 3, Port: 4, Rx: 5}
		want := api.Vec{Root: 1, Cost: c.want, Bridge: 3, Port: 4, Rx: 77}
		if got := vec.Through(v, c.more, 77); got != want {
			t.Errorf("%d and %d: %v", c.has, c.more, got)
		}
	}
}

// P3.3: a bridge's own vector tells it as root and as who tells, and no more.
func TestOwn(t *testing.T) {
	for _, id := range []uint64{0, 7, math.MaxUint64} {
		if got := vec.Own(id); got != (api.Vec{Root: id, Bridge: id}) {
			t.Error(got)
		}
	}
}

// P3.4: through a port none is better than it was, but for its Rx.
func TestThroughNotBetter(t *testing.T) {
	for _, v := range rising() {
		for _, cost := range []uint32{0, 1, 1 << 31, math.MaxUint32} {
			if vec.Better(vec.Through(v, cost, v.Rx), v) {
				t.Errorf("%v is better through a port of cost %d", v, cost)
			}
		}
	}
}
