package loops_test

import (
	"slices"
	"testing"

	"ford/api"
	"ford/calm"
	"ford/lan"
	"ford/loops"
	"ford/nets"
	"ford/plan"
	"ford/samples"
	"ford/sim"
)

// at is a place.
func at(bridge, port int) lan.Place { return lan.Place{Bridge: bridge, Port: port} }

// ring is three bridges, each two on a segment of their own.
func ring() lan.Net { return nets.Of(3, []int{0, 1}, []int{0, 2}, []int{1, 2}) }

// settled is a net all segments of which are up, that has settled.
func settled(t *testing.T, n lan.Net) *lan.Lan {
	t.Helper()
	l := lan.New(n)
	sim.Raise(l, len(n.Segs))
	if !calm.Settle(l, n) {
		t.Fatalf("%+v doesn't settle", n)
	}
	return l
}

// wild is a net of which just those ports forward that are told to be edges: these do so at once, and nothing is delivered.
func wild(n lan.Net, edges ...lan.Place) (*lan.Lan, lan.Net) {
	for i := range n.Nodes {
		for k := range n.Nodes[i].Ports {
			n.Nodes[i].Ports[k].Admin = slices.Contains(edges, at(i, k))
		}
	}
	l := lan.New(n)
	sim.Raise(l, len(n.Segs))
	return l, n
}

// holds holds a net against what must be told of it.
func holds(t *testing.T, name string, l *lan.Lan, n lan.Net, free, whole bool, cut [][]lan.Place) {
	t.Helper()
	if got := loops.Free(l, n); got != free {
		t.Errorf("%s: Free %v", name, got)
	}
	if got := loops.Whole(l, n); got != whole {
		t.Errorf("%s: Whole %v", name, got)
	}
	if got := loops.Cut(l, n); !slices.EqualFunc(got, cut, slices.Equal[[]lan.Place]) {
		t.Errorf("%s: Cut %v, not %v", name, got, cut)
	}
}

// The example: three bridges in a ring, settled.
func TestRing(t *testing.T) {
	n := ring()
	l := settled(t, n)
	holds(t, "settled", l, n, true, true, [][]lan.Place{nil, nil, {at(2, 1)}})
	l.Link(0, false)
	holds(t, "one down", l, n, true, false, [][]lan.Place{nil, nil, {at(2, 1)}})
	calm.Settle(l, n)
	holds(t, "settled anew", l, n, true, true, [][]lan.Place{nil, nil, nil})
	l = lan.New(n)
	holds(t, "all down", l, n, true, true, make([][]lan.Place, 3))
	sim.Raise(l, 3)
	holds(t, "just up", l, n, true, false, [][]lan.Place{{at(0, 0), at(1, 0)}, {at(0, 1), at(2, 0)}, {at(1, 1), at(2, 1)}})
}

// P25.1: ways round: of a ring, of two joints of one bridge to one segment, of two segments between two bridges.
func TestFree(t *testing.T) {
	l, n := wild(ring(), at(0, 0), at(0, 1), at(1, 0), at(1, 1), at(2, 0), at(2, 1))
	holds(t, "ring", l, n, false, true, make([][]lan.Place, 3))
	l, n = wild(ring(), at(0, 0), at(0, 1), at(1, 0), at(1, 1), at(2, 0))
	holds(t, "ring, cut", l, n, true, true, [][]lan.Place{nil, nil, {at(2, 1)}})
	l, n = wild(nets.Of(1, []int{0, 0}), at(0, 0), at(0, 1))
	holds(t, "two joints", l, n, false, true, make([][]lan.Place, 1))
	l, n = wild(nets.Of(1, []int{0, 0}), at(0, 1))
	holds(t, "two joints, cut", l, n, true, true, [][]lan.Place{{at(0, 0)}})
	l, n = wild(nets.Of(2, []int{0, 1}, []int{0, 1}), at(0, 0), at(0, 1), at(1, 0), at(1, 1))
	holds(t, "two segments", l, n, false, true, make([][]lan.Place, 2))
	l.Link(1, false)
	holds(t, "two segments, one down", l, n, true, true, make([][]lan.Place, 2))
	l, n = wild(nets.Of(4, []int{0}, []int{1, 2}, []int{3, 2, 1}), at(0, 0), at(1, 0), at(2, 0), at(3, 0), at(2, 1), at(1, 1))
	holds(t, "a way round behind others", l, n, false, true, make([][]lan.Place, 3))
	l, n = wild(nets.Of(4, []int{0, 1}, []int{1, 2}, []int{1, 3}), at(0, 0), at(1, 0), at(2, 0), at(3, 0), at(1, 1), at(1, 2))
	holds(t, "a star", l, n, true, true, make([][]lan.Place, 3))
}

// P25.2: whole: bridges joined by ports as by segments, and each segment joined to one of its bridges.
func TestWhole(t *testing.T) {
	l, n := wild(nets.Of(2, []int{0, 1}), at(0, 0))
	holds(t, "a bridge is cut off", l, n, true, false, [][]lan.Place{{at(1, 0)}})
	l, n = wild(nets.Of(3, []int{0, 1}, []int{1, 2}, []int{0, 2}), at(0, 0), at(1, 0), at(1, 1), at(2, 0))
	holds(t, "a segment is cut off", l, n, true, false, [][]lan.Place{nil, nil, {at(0, 1), at(2, 1)}})
	l, n = wild(nets.Of(3, []int{0, 1}, []int{1, 2}, []int{0, 2}), at(0, 0), at(1, 0), at(1, 1), at(2, 0), at(2, 1))
	holds(t, "a segment is joined", l, n, true, true, [][]lan.Place{nil, nil, {at(0, 1)}})
	l, n = wild(nets.Of(2, []int{0}, []int{1}), at(0, 0), at(1, 0))
	holds(t, "two parts", l, n, true, true, make([][]lan.Place, 2))
	l, n = wild(nets.Of(1, []int{0}, nil), at(0, 0))
	holds(t, "a segment without places", l, n, true, true, make([][]lan.Place, 2))
	l, n = wild(nets.Of(4, []int{0, 1}, []int{2, 3}, []int{1, 2}), at(0, 0), at(1, 0), at(2, 0), at(3, 0), at(1, 1))
	holds(t, "two halves", l, n, true, false, [][]lan.Place{nil, nil, {at(2, 1)}})
	n = nets.Of(0)
	holds(t, "nothing", lan.New(n), n, true, true, nil)
}

// P25.3: places stand in their order on the segment.
func TestCut(t *testing.T) {
	n := nets.Of(4, []int{3, 1, 0, 2})
	n.Segs = append(n.Segs, nil)
	l := lan.New(n)
	l.Link(0, true)
	holds(t, "all", l, n, true, false, [][]lan.Place{{at(3, 0), at(1, 0), at(0, 0), at(2, 0)}, nil})
	l, n = wild(n, at(1, 0))
	holds(t, "but one", l, n, true, false, [][]lan.Place{{at(3, 0), at(0, 0), at(2, 0)}, nil})
}

// R1: nets of which it isn't are no panic.
func TestOthers(t *testing.T) {
	l := settled(t, ring())
	for _, n := range []lan.Net{{}, nets.Of(1, []int{0}), nets.Of(6, []int{0, 1, 2, 3}, []int{4, 5}, []int{0, 5}, []int{2, 5}), {Segs: [][]lan.Place{{at(-1, 0), at(3, 0), at(9, 9), at(0, -1), at(0, 2), at(0, 0)}}}} {
		loops.Free(l, n)
		loops.Cut(l, n)
		if loops.Whole(l, n) {
			t.Errorf("%+v is whole", n)
		}
	}
}

// open tells for each place of a segment that is up whether it is.
func open(l *lan.Lan, n lan.Net, seg int) []lan.Place {
	var places []lan.Place
	for _, p := range n.Segs[seg] {
		if b := l.Bridges()[p.Bridge].Ports[p.Port]; l.Up(seg) && b.Enabled && b.Flags.Learning && b.Flags.Forwarding {
			places = append(places, p)
		}
	}
	return places
}

// plain tells, by joining points one joint after the other, whether a net is free, and whole.
func plain(l *lan.Lan, n lan.Net) (free, whole bool) {
	part := make([]int, len(n.Nodes)+len(n.Segs))
	for i := range part {
		part[i] = i
	}
	join := func(a, b int) bool {
		from, to := part[a], part[b]
		for i := range part {
			if part[i] == from {
				part[i] = to
			}
		}
		return from != to
	}
	free, whole = true, true
	for s := range n.Segs {
		places := open(l, n, s)
		for _, p := range places {
			free = join(p.Bridge, len(n.Nodes)+s) && free
		}
		whole = whole && (!l.Up(s) || len(n.Segs[s]) == 0 || len(places) > 0)
	}
	for i, k := range plan.Parts(n, calm.Up(l, n)) {
		whole = whole && part[i] == part[k]
	}
	return free, whole
}

// P25.1 to P25.3: of nets of all kinds, in whatever state.
func TestSamples(t *testing.T) {
	met := map[[2]bool]int{}
	for seed := range uint64(150) {
		d := samples.New(2500 + seed)
		n := nets.Net(d)
		for i := range n.Nodes {
			for k := range n.Nodes[i].Ports {
				n.Nodes[i].Ports[k].Admin = d.Flip()
			}
		}
		l := lan.New(n)
		for range 10 {
			sim.Play(l, nets.Script(d, n, 20, false))
			free, whole := plain(l, n)
			cut := make([][]lan.Place, len(n.Segs))
			for s := range n.Segs {
				up := open(l, n, s)
				for _, p := range n.Segs[s] {
					if l.Up(s) && !slices.Contains(up, p) {
						cut[s] = append(cut[s], p)
					}
				}
			}
			holds(t, "sample", l, n, free, whole, cut)
			met[[2]bool{free, whole}]++
		}
	}
	for _, k := range [][2]bool{{true, true}, {true, false}, {false, true}, {false, false}} {
		if met[k] < 5 {
			t.Errorf("%v is hardly met", k)
		}
	}
}

// frames has a station send to another one, from each segment that is up: unknown, it is seen on each segment of its part once; once its destination was heard, on no segment twice, and on the destination's once.
func frames(t *testing.T, seed uint64, l *lan.Lan, n lan.Net, part []int) {
	for from, places := range n.Segs {
		if !l.Up(from) {
			continue
		}
		seen := l.Frame(from, 0x70+uint64(from), 0xffffffffffff)
		for s, many := range seen {
			joined := s == from
			for _, p := range n.Segs[s] {
				for _, q := range places {
					joined = joined || l.Up(s) && part[p.Bridge] == part[q.Bridge]
				}
			}
			if (many == 1) != joined || many > 1 {
				t.Fatalf("seed %d: a frame to all from %d is seen: %v", seed, from, seen)
			}
		}
		for to := range from {
			if !l.Up(to) || len(n.Segs[to]) == 0 || len(places) == 0 || part[n.Segs[to][0].Bridge] != part[places[0].Bridge] {
				continue
			}
			seen := l.Frame(from, 0x70+uint64(from), 0x70+uint64(to))
			if seen[to] != 1 || slices.Max(seen) > 1 {
				t.Fatalf("seed %d: a frame from %d to %d is seen: %v", seed, from, to, seen)
			}
		}
	}
}

// P25.4, T3, T5: settled, the graph is free, and whole; frames are seen once.
func TestSettled(t *testing.T) {
	for seed := range uint64(150) {
		d := samples.New(2540 + seed)
		n := nets.Net(d)
		n.Room, n.Age = api.MaxEntries, 300
		l := lan.New(n)
		sim.Raise(l, len(n.Segs))
		sim.Play(l, nets.Script(d, n, 200, true))
		if !calm.Settle(l, n) {
			t.Fatalf("seed %d doesn't settle", seed)
		}
		if !loops.Free(l, n) || !loops.Whole(l, n) {
			t.Fatalf("seed %d: free %v, whole %v", seed, loops.Free(l, n), loops.Whole(l, n))
		}
		for s, places := range loops.Cut(l, n) {
			for _, p := range places {
				if role := calm.Roles(l)[p.Bridge][p.Port]; role != api.RoleAlternate && role != api.RoleBackup || !l.Up(s) {
					t.Errorf("seed %d: %v is cut", seed, p)
				}
			}
		}
		frames(t, seed, l, n, plan.Parts(n, calm.Up(l, n)))
	}
}

// T5: always a frame is seen on no segment twice, when all has settled, and nobody loses what it knows when it is quiet.
func TestQuietFrames(t *testing.T) {
	n := ring()
	l := settled(t, n)
	for range 30 {
		if seen := l.Frame(1, 5, 6); !slices.Equal(seen, []int{1, 1, 1}) {
			t.Fatal(seen)
		}
		sim.Quiet(l, 1)
		if seen := l.Frame(2, 7, 5); seen[1] != 1 || seen[2] != 1 || slices.Max(seen) > 1 {
			t.Fatal(seen)
		}
	}
}
