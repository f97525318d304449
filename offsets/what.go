package offsets

import (
	"moorsom/api"
	"moorsom/weigh"
)

// By what the sums of quantities are divided: the weights of weigh are 36
// times those of a line, and the sums are those of one side of the hull.
const (
	litre     = api.Scale * api.Scale * 1000000 / 2
	decimetre = api.Scale * 10000 / 2
)

// A quantity is what is asked of a valid space.
type quantity struct {
	api.Space
	api.What
}

// A grid has the weights of a quantity, and its divisor: the weight of an
// offset is the product of those of its station and of its water, as in
// weigh.Grid. Offsets behind the end of either list have none.
type grid struct {
	along, up []int
	divisor   int
}

// kinds tells, by the kind of a quantity, what returns its grid, or false if
// the quantity names what its kind does not.
func kinds() map[int]func(quantity) (grid, bool) {
	return map[int]func(quantity) (grid, bool){
		api.WhatLitres:  quantity.litres,
		api.WhatPlane:   quantity.plane,
		api.WhatSection: quantity.section,
		api.WhatOffset:  quantity.offset,
	}
}

func (q quantity) litres() (grid, bool) {
	if q.Station != 0 || q.Water < 1 {
		return grid{}, false
	}
	return grid{integral(q.Stations), integral(q.Waters[:q.Water+1]), litre}, true
}

func (q quantity) plane() (grid, bool) {
	return grid{integral(q.Stations), only(q.Water), decimetre}, q.Station == 0
}

func (q quantity) section() (grid, bool) {
	return grid{only(q.Station), integral(q.Waters), decimetre}, q.Water == 0
}

func (q quantity) offset() (grid, bool) {
	return grid{only(q.Station), only(q.Water), 1}, true
}

// integral is the weights of valid positions.
func integral(places []int) []int {
	weights, _ := weigh.Weights(places)
	return weights
}

// only is weights that leave nothing but what has an index.
func only(index int) []int {
	weights := make([]int, index+1)
	weights[index] = 1
	return weights
}

// weightsOf returns the weights of a quantity of a valid space, and its divisor.
func weightsOf(s api.Space, w api.What) ([]int, int, api.Errno) {
	gridOf, known := kinds()[w.Kind]
	if !known || !has(s, w.Station, w.Water) {
		return nil, 0, api.ErrWhat
	}
	g, named := gridOf(quantity{s, w})
	if !named {
		return nil, 0, api.ErrWhat
	}
	weights := []int{0}
	for o := range offsetsOf(s) {
		weight := 0
		if o.station < len(g.along) && o.water < len(g.up) {
			weight = g.along[o.station] * g.up[o.water]
		}
		weights = append(weights, weight)
	}
	return weights, g.divisor, api.OK
}

// Weights returns the weights of a quantity, and its divisor.
func Weights(s api.Space, w api.What) ([]int, int, api.Errno) {
	if e := CheckSpace(s); e != api.OK {
		return nil, 0, e
	}
	return weightsOf(s, w)
}
