package reach_test

import (
	"math"
	"slices"
	"testing"

	"ford/reach"
)

// P22.1: a way's length is what it costs, and how many hops it has.
func TestLength(t *testing.T) {
	for _, c := range []struct {
		costs []uint32
		want  complex128
	}{
		{nil, 0},
		{[]uint32{}, 0},
		{[]uint32{0}, complex(0, 1)},
		{[]uint32{5, 5}, complex(10, 2)},
		{[]uint32{math.MaxUint32, math.MaxUint32, 1}, complex(8589934591, 3)},
	} {
		if got := reach.Length(c.costs); got != c.want {
			t.Errorf("%v: %v", c.costs, got)
		}
	}
}

// P22.1: which one is shorter, by costs first.
func TestLess(t *testing.T) {
	nan, inf := math.NaN(), math.Inf(1)
	for _, c := range []struct {
		a, b complex128
		want bool
	}{
		{complex(1, 9), complex(2, 1), true},
		{complex(2, 1), complex(1, 9), false},
		{complex(2, 1), complex(2, 2), true},
		{complex(2, 2), complex(2, 2), false},
		{complex(2, 3), complex(2, 2), false},
		{complex(-1, -1), complex(0, 0), true},
		{complex(5, 1), complex(inf, 1), true},
		{complex(inf, 1), complex(inf, 2), true},
		{complex(inf, 1), complex(inf, 1), false},
		{complex(nan, 1), complex(2, 2), false},
		{complex(2, 2), complex(nan, 9), false},
		{complex(nan, 1), complex(nan, 2), false},
		{complex(2, nan), complex(2, 2), false},
		{complex(2, 2), complex(2, nan), false},
		{complex(2, nan), complex(2, nan), false},
	} {
		if got := reach.Less(c.a, c.b); got != c.want {
			t.Errorf("Less(%v, %v): %v", c.a, c.b, got)
		}
	}
}

// P22.1: no length is one number alone.
func TestNone(t *testing.T) {
	for _, c := range []struct {
		a    complex128
		want bool
	}{
		{complex(-1, -1), true}, {complex(-1, 0), false}, {complex(0, -1), false}, {0, false}, {complex(1, 1), false}, {complex(-2, -2), false},
		{complex(math.NaN(), math.NaN()), false}, {complex(math.Inf(-1), -1), false},
	} {
		if got := reach.None(c.a); got != c.want {
			t.Errorf("None(%v): %v", c.a, got)
		}
	}
}

const no = complex(-1, -1)

// hop is one of a cost.
func hop(from, to int, cost uint32) reach.Hop { return reach.Hop{From: from, To: to, Cost: cost} }

// P22.2: the shortest ways, from their beginning to their end alone.
func TestFar(t *testing.T) {
	for _, c := range []struct {
		name string
		n    int
		l    []reach.Hop
		from int
		want []complex128
	}{
		{"the example", 3, []reach.Hop{hop(0, 1, 5), hop(1, 2, 5), hop(0, 2, 10)}, 0, []complex128{0, complex(5, 1), complex(10, 1)}},
		{"one point", 1, nil, 0, []complex128{0}},
		{"one point, round", 1, []reach.Hop{hop(0, 0, 0)}, 0, []complex128{0}},
		{"no hops", 3, nil, 1, []complex128{no, 0, no}},
		{"no way back", 3, []reach.Hop{hop(0, 1, 5), hop(1, 2, 5)}, 1, []complex128{no, 0, complex(5, 1)}},
		{"cheaper by more hops", 3, []reach.Hop{hop(0, 1, 5), hop(1, 2, 4), hop(0, 2, 10)}, 0, []complex128{0, complex(5, 1), complex(9, 2)}},
		{"round for nothing", 2, []reach.Hop{hop(0, 1, 0), hop(1, 0, 0)}, 0, []complex128{0, complex(0, 1)}},
		{"like hops", 2, []reach.Hop{hop(0, 1, 7), hop(0, 1, 3), hop(0, 1, 5)}, 0, []complex128{0, complex(3, 1)}},
		{"dear", 3, []reach.Hop{hop(0, 1, math.MaxUint32), hop(1, 2, math.MaxUint32)}, 0, []complex128{0, complex(4294967295, 1), complex(8589934590, 2)}},
		{"no points", 2, []reach.Hop{hop(0, 2, 1), hop(2, 1, 1), hop(-1, 1, 1), hop(0, -1, 1), hop(math.MinInt, math.MaxInt, 1), hop(0, 1, 9)}, 0, []complex128{0, complex(9, 1)}},
		{"from no point", 2, nil, 2, nil},
		{"from below", 2, nil, -1, nil},
		{"none", 0, nil, 0, nil},
		{"less than none", -1, nil, 0, nil},
		{"far less", math.MinInt, nil, math.MinInt, nil},
		{"too many", 1001, nil, 0, nil},
		{"far too many", math.MaxInt, nil, 0, nil},
	} {
		if got := reach.Far(c.n, c.l, c.from); !slices.Equal(got, c.want) {
			t.Errorf("%s: %v, not %v", c.name, got, c.want)
		}
	}
}

// P22.2: as many points as may be, one behind the other.
func TestFarMost(t *testing.T) {
	var l []reach.Hop
	for i := 999; i > 0; i-- {
		l = append(l, hop(i-1, i, 3))
	}
	got := reach.Far(1000, l, 0)
	if len(got) != 1000 || got[999] != complex(2997, 999) {
		t.Error(len(got))
	}
}

// P22.2, P22.3: no hop leads to a point by a shorter way, and each length is a way's.
func TestFarSamples(t *testing.T) {
	x := uint64(22)
	next := func(m int) int {
		x = x*6364136223846793005 + 1442695040888963407
		return int(x >> 33 % uint64(m))
	}
	for range 2000 {
		n := 1 + next(9)
		var l []reach.Hop
		for range next(25) {
			l = append(l, hop(next(n), next(n), uint32(next(6))))
		}
		ahead, from := slices.Clone(l), next(n)
		far := reach.Far(n, l, from)
		if len(far) != n || far[from] != 0 || !slices.Equal(l, ahead) {
			t.Fatal(far)
		}
		last := make([]bool, n)
		last[from] = true
		for _, h := range l {
			a := far[h.From] + reach.Length([]uint32{h.Cost})
			if reach.None(far[h.From]) {
				continue
			}
			if reach.None(far[h.To]) || reach.Less(a, far[h.To]) {
				t.Fatalf("%v is shorter than %v to %d: %v", a, far[h.To], h.To, l)
			}
			last[h.To] = last[h.To] || a == far[h.To]
		}
		for i, ok := range last {
			if ok == reach.None(far[i]) {
				t.Fatalf("no way is %v long to %d: %v", far[i], i, l)
			}
		}
	}
}

// P22.3: a way's length is the sum of its parts'.
func TestSum(t *testing.T) {
	costs := []uint32{7, 0, math.MaxUint32, 200000000, 1}
	for cut := range costs {
		if reach.Length(costs[:cut])+reach.Length(costs[cut:]) != reach.Length(costs) {
			t.Error(cut)
		}
	}
}
