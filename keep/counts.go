package keep

import (
	"slices"

	"dunnage/api"
	"dunnage/vec"
)

// counts are what is counted of a state's pods, in maps: what isn't there was
// never counted, and is 0.
type counts struct {
	zoneOf map[int]int     // by node: the zone that it is in
	use    map[int]api.Vec // by node: the sum of its pods' Reqs
	atNode map[site]int    // how many of a load are at a node
	inZone map[area]int    // how many of a load are in a zone
	size   map[int]int     // by load: how many of it are somewhere
}

type site struct{ load, node int }

type area struct{ load, zone int }

// noCounts are those of a state whose pods are all nowhere.
func noCounts(s api.Snapshot) counts {
	c := counts{
		zoneOf: map[int]int{},
		use:    map[int]api.Vec{},
		atNode: map[site]int{},
		inZone: map[area]int{},
		size:   map[int]int{},
	}
	for _, n := range s.Nodes {
		c.zoneOf[n.Id] = n.Zone
	}
	return c
}

// come counts pods that there is room for.
func (c counts) come(pods []api.Pod) {
	for _, p := range pods {
		if p.Node != 0 {
			use, _ := vec.Add(c.use[p.Node], p.Req) // with room for it no sum goes over
			c.use[p.Node] = use
			c.count(p, 1)
		}
	}
}

// leave counts pods no more.
func (c counts) leave(pods []api.Pod) {
	for _, p := range pods {
		if p.Node != 0 {
			c.use[p.Node] = less(c.use[p.Node], p.Req)
			c.count(p, -1)
		}
	}
}

func (c counts) count(p api.Pod, by int) {
	c.atNode[site{p.Load, p.Node}] += by
	c.inZone[area{p.Load, c.zoneOf[p.Node]}] += by
	c.size[p.Load] += by
}

func (c counts) rest(n api.Node) api.Vec { return less(free(n), c.use[n.Id]) }

// roomFault is what would be wrong with a node's room, if of these pods those
// that are there left, and then those that are to be there came; nil: nothing.
// It is asked ahead of counting, for a sum that goes over can't be counted.
func (c counts) roomFault(n api.Node, left, came []api.Pod) error {
	use := c.use[n.Id]
	for _, p := range left {
		if p.Node == n.Id {
			use = less(use, p.Req)
		}
	}
	for _, p := range came {
		if p.Node == n.Id {
			more, err := vec.Add(use, p.Req)
			if err != nil {
				return err
			}
			use = more
		}
	}
	if !vec.Fits(use, free(n)) {
		return api.ErrRoom
	}
	return nil
}

// loadsFault is what is wrong with these loads; nil: nothing. Each check goes
// through all of them ahead of the next one, as layer 11's do.
func (c counts) loadsFault(loads []api.Load) error {
	if slices.ContainsFunc(loads, c.clashes) {
		return api.ErrApart
	}
	if slices.ContainsFunc(loads, c.isUnlike) {
		return api.ErrSpread
	}
	for _, l := range loads {
		if c.size[l.Id] < l.Min {
			return api.ErrFew
		}
		if c.size[l.Id] > l.Max {
			return api.ErrMany
		}
	}
	return nil
}

// clashes tells whether two of a load are together, and may not be.
func (c counts) clashes(l api.Load) bool {
	if !l.Apart {
		return false
	}
	for node := range c.zoneOf {
		if c.atNode[site{l.Id, node}] > 1 {
			return true
		}
	}
	return false
}

// isUnlike tells whether a load's zones are more unlike than they may be.
func (c counts) isUnlike(l api.Load) bool {
	if l.Skew == 0 {
		return false
	}
	least, most := api.MaxPods, 0
	for _, zone := range c.zoneOf {
		many := c.inZone[area{l.Id, zone}]
		least, most = min(least, many), max(most, many)
	}
	return most-least > l.Skew
}

// free is what a node has for its pods, with none of them there.
func free(n api.Node) api.Vec { return less(n.Cap, n.Held) }

// less is one amount less another one that fits in it.
func less(a, b api.Vec) api.Vec {
	difference, _ := vec.Sub(a, b)
	return difference
}
