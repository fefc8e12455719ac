// Package nets makes nets out of a number, for tests: the same number makes the same nets.
package nets

import (
	"slices"

	"ford/api"
	"ford/bridge"
	"ford/ident"
	"ford/lan"
	"ford/samples"
)

// Most is how many bridges such a net has at most.
const Most = 6

// Usual are times that a net may have.
func Usual() api.Times { return api.Times{Max: 20, Hello: 2, Delay: 15} }

// times are some that a net of so many bridges may have; Max is above how many there are.
func times(d *samples.Dice, bridges int) api.Times {
	switch d.Upto(4) {
	case 0:
		if bridges < 6 {
			return api.Times{Max: 6, Hello: 1, Delay: 4}
		}
	case 1:
		return api.Times{Max: 12, Hello: 3, Delay: 9}
	}
	return Usual()
}

// number is bridge i's: addresses are unlike, first parts may be like.
func number(d *samples.Dice, i int) uint64 {
	return ident.Bridge(uint16(d.Upto(3)*4096), uint64(0x0a0000000000+16*(1+i)+d.Upto(16)))
}

// port is port k's setup; Shared is set wrongly at times, which must play no part.
func port(d *samples.Dice, k int) bridge.Setup {
	cost := 1 + d.Upto(20)
	if d.Once(20) {
		cost = 200000000
	}
	return bridge.Setup{
		ID: ident.Port(uint8(16*d.Upto(16)), uint16(k+1)), Cost: uint32(cost),
		Shared: d.Flip(), Admin: d.Once(10), Auto: d.Flip(),
	}
}

// node is bridge i, of some ports.
func node(d *samples.Dice, i, ports int) lan.Node {
	x := lan.Node{ID: number(d, i), Rst: d.Upto(3) > 0}
	for k := range ports {
		x.Ports = append(x.Ports, port(d, k))
	}
	return x
}

// Net is one that may be, of up to Most bridges; one port in eight hangs on no segment.
func Net(d *samples.Dice) lan.Net {
	bridges := 1 + d.Upto(Most)
	n := lan.Net{Times: times(d, bridges), Hold: 1 + d.Upto(10), Room: 1 + d.Upto(20), Age: 1 + d.Upto(300)}
	n.Segs = make([][]lan.Place, 1+d.Upto(2*bridges))
	for i := range bridges {
		x := node(d, i, d.Upto(5))
		for k := range x.Ports {
			if seg := d.Upto(len(n.Segs)); !d.Once(8) {
				n.Segs[seg] = slices.Insert(n.Segs[seg], d.Upto(len(n.Segs[seg])+1), lan.Place{Bridge: i, Port: k})
			}
		}
		n.Nodes = append(n.Nodes, x)
	}
	return n
}

// Of is a net of Rst bridges with numbers from 1 on, and of segments, on which bridges hang by their places; each one's ports have numbers and places in the order of the segments, and cost 10.
func Of(bridges int, segs ...[]int) lan.Net {
	n := lan.Net{Times: Usual(), Hold: 6, Room: 100, Age: 300}
	for i := range bridges {
		n.Nodes = append(n.Nodes, lan.Node{ID: uint64(i + 1), Rst: true})
	}
	for _, seg := range segs {
		var places []lan.Place
		for _, i := range seg {
			x := &n.Nodes[i]
			places = append(places, lan.Place{Bridge: i, Port: len(x.Ports)})
			x.Ports = append(x.Ports, bridge.Setup{ID: ident.Port(128, uint16(len(x.Ports)+1)), Cost: 10})
		}
		n.Segs = append(n.Segs, places)
	}
	return n
}

// Same tells whether two nets that go on are alike in all that they tell.
func Same(a, b *lan.Lan, segs int) bool {
	as, bs := a.Bridges(), b.Bridges()
	if len(as) != len(bs) || a.Flying() != b.Flying() || a.Bad() != b.Bad() {
		return false
	}
	for seg := range segs {
		if a.Up(seg) != b.Up(seg) {
			return false
		}
	}
	for i := range as {
		if !samples.Same(as[i], bs[i]) || !slices.Equal(a.Known(i), b.Known(i)) {
			return false
		}
	}
	return true
}
