package plan_test

import (
	"slices"
	"testing"

	"ford/api"
	"ford/lan"
	"ford/nets"
	"ford/plan"
	"ford/samples"
)

// at is a place.
func at(bridge, port int) lan.Place { return lan.Place{Bridge: bridge, Port: port} }

// all are so many segments that are up.
func all(n lan.Net) []bool { return slices.Repeat([]bool{true}, len(n.Segs)) }

// same tells whether two plans are alike.
func same(a, b plan.Plan) bool {
	return slices.Equal(a.Root, b.Root) && slices.Equal(a.Cost, b.Cost) && slices.Equal(a.By, b.By) && slices.EqualFunc(a.Roles, b.Roles, slices.Equal[[]int])
}

// holds holds a net's plan against what it must be.
func holds(t *testing.T, name string, n lan.Net, up []bool, want plan.Plan) {
	t.Helper()
	if got := plan.Of(n, up); !same(got, want) {
		t.Errorf("%s: %+v, not %+v", name, got, want)
	}
}

// Short names of the roles.
const (
	dis = api.RoleDisabled
	alt = api.RoleAlternate
	bak = api.RoleBackup
	rot = api.RoleRoot
	des = api.RoleDesignated
)

// ring is three bridges, each two on a segment of their own.
func ring() lan.Net { return nets.Of(3, []int{0, 1}, []int{0, 2}, []int{1, 2}) }

// P23.2: the example; and which segments are up.
func TestRing(t *testing.T) {
	n := ring()
	holds(t, "all up", n, all(n), plan.Plan{
		Root: []uint64{1, 1, 1}, Cost: []uint32{0, 10, 10},
		By:    []lan.Place{at(0, 0), at(0, 1), at(1, 1)},
		Roles: [][]int{{des, des}, {rot, des}, {rot, alt}},
	})
	cut := plan.Plan{
		Root: []uint64{1, 1, 1}, Cost: []uint32{0, 20, 10},
		By:    []lan.Place{at(-1, -1), at(0, 1), at(2, 1)},
		Roles: [][]int{{dis, des}, {dis, rot}, {rot, des}},
	}
	holds(t, "one down", n, []bool{false, true, true}, cut)
	holds(t, "more told than there are", n, []bool{false, true, true, true, true}, cut)
	holds(t, "one up, others not told", n, []bool{true}, plan.Plan{
		Root: []uint64{1, 1, 3}, Cost: []uint32{0, 10, 0},
		By:    []lan.Place{at(0, 0), at(-1, -1), at(-1, -1)},
		Roles: [][]int{{des, dis}, {rot, dis}, {dis, dis}},
	})
	none := plan.Plan{
		Root: []uint64{1, 2, 3}, Cost: []uint32{0, 0, 0},
		By:    []lan.Place{at(-1, -1), at(-1, -1), at(-1, -1)},
		Roles: [][]int{{dis, dis}, {dis, dis}, {dis, dis}},
	}
	holds(t, "none told", n, nil, none)
	holds(t, "none up", n, make([]bool, 3), none)
}

// P23.2: two ports of one bridge on one segment: the lesser one is designated, the other one backs up, or both do.
func TestBackup(t *testing.T) {
	n := nets.Of(2, []int{0, 0, 1, 1})
	n.Nodes[0].Ports[0].ID, n.Nodes[0].Ports[1].ID = 0x9001, 0x8002
	holds(t, "root's", n, all(n), plan.Plan{
		Root: []uint64{1, 1}, Cost: []uint32{0, 10}, By: []lan.Place{at(0, 1)},
		Roles: [][]int{{bak, des}, {rot, alt}},
	})
	n = nets.Of(1, []int{0, 0, 0})
	holds(t, "alone", n, all(n), plan.Plan{Root: []uint64{1}, Cost: []uint32{0}, By: []lan.Place{at(0, 0)}, Roles: [][]int{{des, bak, bak}}})
}

// P23.2: what tells a root port: cost, then whose it is, then their port, then its own.
func TestRootPort(t *testing.T) {
	two := func() lan.Net { return nets.Of(2, []int{0, 1}, []int{0, 1}) }
	for _, c := range []struct {
		name string
		with func(n *lan.Net)
		want []int
	}{
		{"their port", func(n *lan.Net) {}, []int{rot, alt}},
		{"their other port", func(n *lan.Net) { n.Nodes[0].Ports[0].ID = 0x9001 }, []int{alt, rot}},
		{"own cost", func(n *lan.Net) { n.Nodes[1].Ports[0].Cost = 11 }, []int{alt, rot}},
		{"own port plays no part", func(n *lan.Net) { n.Nodes[1].Ports[0].ID = 0xf001 }, []int{rot, alt}},
		{"their cost plays no part", func(n *lan.Net) { n.Nodes[0].Ports[0].Cost = 99 }, []int{rot, alt}},
	} {
		n := two()
		c.with(&n)
		if got := plan.Of(n, all(n)).Roles[1]; !slices.Equal(got, c.want) {
			t.Errorf("%s: %v, not %v", c.name, got, c.want)
		}
	}
	// By the bridge, where costs are alike; by the own port, on one segment.
	n := nets.Of(4, []int{0, 1}, []int{0, 2}, []int{2, 3}, []int{1, 3})
	if got := plan.Of(n, all(n)).Roles[3]; !slices.Equal(got, []int{alt, rot}) {
		t.Error("their bridge:", got)
	}
	n = nets.Of(2, []int{0, 1, 1})
	n.Nodes[1].Ports[0].ID = 0x9001
	if got := plan.Of(n, all(n)).Roles[1]; !slices.Equal(got, []int{alt, rot}) {
		t.Error("own port:", got)
	}
}

// P23.2: the least number is root, first part and all; costs go by the ports where they are gone to.
func TestRootAndCost(t *testing.T) {
	n := ring()
	n.Nodes[0].ID |= 0x9000 << 48
	n.Nodes[1].ID |= 0x8000 << 48
	n.Nodes[2].ID |= 0x8000 << 48
	n.Nodes[0].Ports[0].Cost, n.Nodes[2].Ports[1].Cost = 3, 7
	got := plan.Of(n, all(n))
	if id := n.Nodes[1].ID; !slices.Equal(got.Root, []uint64{id, id, id}) || !slices.Equal(got.Cost, []uint32{3, 0, 7}) {
		t.Errorf("%+v", got)
	}
}

// P23.1: who is joined with whom.
func TestParts(t *testing.T) {
	n := nets.Of(6, []int{4, 5}, []int{3, 1}, []int{1, 4}, []int{2}, nil)
	for _, c := range []struct {
		up   []bool
		want []int
	}{
		{all(n), []int{0, 1, 2, 1, 1, 1}},
		{[]bool{true, true, true, true, true, true}, []int{0, 1, 2, 1, 1, 1}},
		{[]bool{true, true}, []int{0, 1, 2, 1, 4, 4}},
		{[]bool{false, true, true}, []int{0, 1, 2, 1, 1, 5}},
		{nil, []int{0, 1, 2, 3, 4, 5}},
	} {
		if got := plan.Parts(n, c.up); !slices.Equal(got, c.want) {
			t.Errorf("%v: %v, not %v", c.up, got, c.want)
		}
	}
}

// Of a net that may not be all is empty; of one of nothing, too.
func TestWrong(t *testing.T) {
	n := ring()
	n.Hold = 0
	holds(t, "Hold", n, all(n), plan.Plan{})
	if got := plan.Parts(n, all(n)); len(got) != 0 {
		t.Error(got)
	}
	n = ring()
	n.Segs[0][0] = at(9, 9)
	holds(t, "place", n, all(n), plan.Plan{})
	if got := plan.Parts(n, all(n)); len(got) != 0 {
		t.Error(got)
	}
	holds(t, "nothing", nets.Of(0), nil, plan.Plan{})
	n = nets.Of(0, nil, nil)
	holds(t, "segments without places", n, all(n), plan.Plan{By: []lan.Place{at(-1, -1), at(-1, -1)}})
	if got := plan.Parts(n, all(n)); len(got) != 0 {
		t.Error(got)
	}
}

// R5: what is handed in isn't changed; what is answered is memory of its own.
func TestOwn(t *testing.T) {
	n, up := ring(), all(ring())
	got := plan.Of(n, up)
	got.By[0], got.Roles[0][0], got.Root[0], got.Cost[0] = at(5, 5), 9, 9, 9
	plan.Parts(n, up)[0] = 9
	if again := plan.Of(n, up); again.By[0] != at(0, 0) || again.Roles[0][0] != des || again.Root[0] != 1 || !slices.Equal(up, all(n)) {
		t.Errorf("%+v", again)
	}
	if n.Segs[0][0] != at(0, 0) {
		t.Error("changed")
	}
}

// plain is a net's plan, by the words, in the plainest way.
func plain(n lan.Net, up []bool) plan.Plan {
	const none = 1 << 60
	var p plan.Plan
	many := len(n.Nodes)
	raised := func(s int) bool { return s < len(up) && up[s] }
	port := func(q lan.Place) (uint16, int) {
		x := n.Nodes[q.Bridge].Ports[q.Port]
		return x.ID, int(x.Cost)
	}
	joined := make([][]int, many) // the cheapest way from i to k
	for i := range joined {
		joined[i] = slices.Repeat([]int{none}, many)
		joined[i][i] = 0
	}
	for s, seg := range n.Segs {
		for _, a := range seg {
			for _, b := range seg {
				if _, c := port(b); raised(s) && a.Bridge != b.Bridge {
					joined[a.Bridge][b.Bridge] = min(joined[a.Bridge][b.Bridge], c)
				}
			}
		}
	}
	for k := range many {
		for i := range many {
			for j := range many {
				joined[i][j] = min(joined[i][j], joined[i][k]+joined[k][j])
			}
		}
	}
	cost := make([]int, many)
	for i, x := range n.Nodes {
		root, at := x.ID, i
		for k, y := range n.Nodes {
			if joined[i][k] < none && y.ID < root {
				root, at = y.ID, k
			}
		}
		cost[i] = joined[at][i]
		p.Root, p.Cost = append(p.Root, root), append(p.Cost, uint32(cost[i]))
	}
	// less holds four numbers against four others.
	less := func(a, b [4]uint64) bool { return slices.Compare(a[:], b[:]) < 0 }
	key := func(q lan.Place, more int, own uint16) [4]uint64 {
		id, _ := port(q)
		return [4]uint64{uint64(cost[q.Bridge] + more), n.Nodes[q.Bridge].ID, uint64(id), uint64(own)}
	}
	segOf := map[lan.Place]int{}
	for s, seg := range n.Segs {
		by := at(-1, -1)
		for _, q := range seg {
			if !raised(s) {
				break
			}
			segOf[q] = s
			if by.Bridge < 0 || less(key(q, 0, 0), key(by, 0, 0)) {
				by = q
			}
		}
		p.By = append(p.By, by)
	}
	for i, x := range n.Nodes {
		var roles []int
		best, way := -1, [4]uint64{}
		for k, set := range x.Ports {
			s, ok := segOf[at(i, k)]
			role := alt
			switch {
			case !ok:
				role = dis
			case p.By[s] == at(i, k):
				role = des
			case p.By[s].Bridge == i:
				role = bak
			default:
				if w := key(p.By[s], int(set.Cost), set.ID); best < 0 || less(w, way) {
					best, way = k, w
				}
			}
			roles = append(roles, role)
		}
		if best >= 0 && p.Root[i] != x.ID {
			roles[best] = rot
		}
		p.Roles = append(p.Roles, roles)
	}
	return p
}

// P23.1, P23.2: plans of all kinds of nets.
func TestSamples(t *testing.T) {
	d := samples.New(23)
	met := map[int]int{}
	for range 1500 {
		n := nets.Net(d)
		up := make([]bool, d.Upto(len(n.Segs)+2))
		for s := range up {
			up[s] = !d.Once(5)
		}
		want := plain(n, up)
		holds(t, "sample", n, up, want)
		part := plan.Parts(n, up)
		for i, k := range part {
			if k > i || part[k] != k || want.Root[i] != want.Root[k] {
				t.Fatalf("%+v: %v", n, part)
			}
			for j := range i {
				if (want.Root[i] == want.Root[j]) != (part[i] == part[j]) {
					t.Fatalf("%+v: %v", n, part)
				}
			}
		}
		for _, l := range want.Roles {
			for _, role := range l {
				met[role]++
			}
		}
	}
	for role := dis; role <= des; role++ {
		if met[role] < 50 {
			t.Errorf("role %d is hardly met", role)
		}
	}
}

// P23.3: each segment that is up has one designated port; each bridge that isn't root one root port; from it one comes to the root, at its cost.
func TestFollows(t *testing.T) {
	d := samples.New(233)
	for range 1000 {
		n := nets.Net(d)
		p := plan.Of(n, all(n))
		for s, seg := range n.Segs {
			many := 0
			for _, q := range seg {
				if p.Roles[q.Bridge][q.Port] == des {
					many++
				}
			}
			if many != min(len(seg), 1) {
				t.Fatalf("%d designated ports on segment %d: %+v", many, s, n)
			}
		}
		for i, x := range n.Nodes {
			root := slices.Index(p.Roles[i], rot)
			if (root < 0) != (p.Root[i] == x.ID) || slices.Contains(p.Roles[i][root+1:], rot) {
				t.Fatalf("bridge %d: %v", i, p.Roles[i])
			}
			if root < 0 {
				continue
			}
			for s, seg := range n.Segs {
				if slices.Contains(seg, at(i, root)) && p.Cost[i] != p.Cost[p.By[s].Bridge]+x.Ports[root].Cost {
					t.Fatalf("bridge %d: %d", i, p.Cost[i])
				}
			}
		}
	}
}
