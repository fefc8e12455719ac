package plan

import (
	"cmp"
	"slices"

	"ford/api"
	"ford/lan"
)

// view is a net of which it is known which bridges are roots, how far all others are from them, which segment a place is on, of those that are up, and by whom these are designated.
type view struct {
	n    lan.Net
	root []int
	far  []complex128
	segs map[lan.Place]int
	by   []lan.Place
}

// nowhere is the place of a port that there isn't.
func nowhere() lan.Place { return lan.Place{Bridge: -1, Port: -1} }

// bridge and port are the numbers of a place's.
func (v view) bridge(p lan.Place) uint64 { return v.n.Nodes[p.Bridge].ID }
func (v view) port(p lan.Place) uint16   { return v.n.Nodes[p.Bridge].Ports[p.Port].ID }

// offer holds two places against each other as who offers the way to the root there, at so much more cost.
func (v view) offer(a, b lan.Place, more, than uint32) int {
	return cmp.Or(
		cmp.Compare(real(v.far[a.Bridge])+float64(more), real(v.far[b.Bridge])+float64(than)),
		cmp.Compare(v.bridge(a), v.bridge(b)),
		cmp.Compare(v.port(a), v.port(b)),
	)
}

// designated is the place of a segment's designated port; nowhere, if it has none.
func (v view) designated(seg []lan.Place) lan.Place {
	if len(seg) == 0 {
		return nowhere()
	}
	return slices.MinFunc(seg, func(a, b lan.Place) int { return v.offer(a, b, 0, 0) })
}

// cost is what a place's port costs.
func (v view) cost(p lan.Place) uint32 { return v.n.Nodes[p.Bridge].Ports[p.Port].Cost }

// nearer holds two places of a bridge against each other as its way to the root.
func (v view) nearer(a, b lan.Place) int {
	return cmp.Or(
		v.offer(v.by[v.segs[a]], v.by[v.segs[b]], v.cost(a), v.cost(b)),
		cmp.Compare(v.port(a), v.port(b)),
	)
}

// alone is the role of a port for itself; where it isn't the root's yet.
func (v view) alone(p lan.Place) int {
	seg, up := v.segs[p]
	switch {
	case !up:
		return api.RoleDisabled
	case v.by[seg] == p:
		return api.RoleDesignated
	case v.by[seg].Bridge == p.Bridge:
		return api.RoleBackup
	}
	return api.RoleAlternate
}

// roles are those of bridge i's ports; the best of those that are alternate is the root's.
func (v view) roles(i int) []int {
	var roles []int
	var ways []lan.Place
	for k := range v.n.Nodes[i].Ports {
		p := lan.Place{Bridge: i, Port: k}
		roles = append(roles, v.alone(p))
		if roles[k] == api.RoleAlternate {
			ways = append(ways, p)
		}
	}
	if v.root[i] != i && len(ways) > 0 {
		roles[slices.MinFunc(ways, v.nearer).Port] = api.RoleRoot
	}
	return roles
}
