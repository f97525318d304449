package weigh_test

import (
	"math"
	"math/big"
	"slices"
	"testing"

	"moorsom/api"
	"moorsom/weigh"
)

// filled is a table with the same half-breadth everywhere.
func filled(stations, waters []int, half int) api.Table {
	t := api.Table{Stations: stations, Waters: waters}
	for range stations {
		t.Halves = append(t.Halves, slices.Repeat([]int{half}, len(waters)))
	}
	return t
}

// chosen is a table with half-breadths that a seed chooses.
func chosen(stations, waters []int, seed int) api.Table {
	t := api.Table{Stations: stations, Waters: waters}
	for i := range stations {
		row := somewhere(len(waters), seed+31*i)
		for j := range row {
			row[j] = max(row[j], -row[j])
		}
		t.Halves = append(t.Halves, row)
	}
	return t
}

var (
	nineStations = []int{0, 1, 2, 3, 5, 8, 11, 12, api.MaxAlong}
	sevenWaters  = []int{0, 10, 20, 50, 51, 53, api.MaxUp}
)

func validTables() []api.Table {
	return []api.Table{
		{Stations: []int{0, 5}, Waters: []int{0, 3}, Halves: [][]int{{1, 2}, {3, 4}}},
		filled([]int{0, 1000, 2000}, []int{0, 1000}, 500),
		filled([]int{0, api.MaxAlong}, []int{0, api.MaxUp}, api.MaxHalf),
		filled([]int{0, 1}, []int{0, 1}, 0),
		filled([]int{api.MaxAlong - 1, api.MaxAlong}, []int{api.MaxUp - 1, api.MaxUp}, 1),
		filled(nineStations, sevenWaters, api.MaxHalf),
		chosen(nineStations, sevenWaters, 1),
		chosen([]int{0, 10, 40}, []int{0, 30, 40}, 2),
		chosen([]int{0, 10, 30, 60, 100}, []int{7, 8, 10}, 3),
		chosen([]int{3, 9, 27}, []int{0, 1, 2, 3, 4}, 4),
	}
}

// broken returns tables that are not valid, each for one reason.
func broken() map[string]api.Table {
	good := func() api.Table { return filled([]int{0, 10, 20}, []int{0, 5}, 7) }
	with := func(change func(*api.Table)) api.Table {
		t := good()
		change(&t)
		return t
	}
	return map[string]api.Table{
		"empty":            {},
		"no stations":      with(func(t *api.Table) { t.Stations, t.Halves = nil, nil }),
		"one station":      filled([]int{0}, []int{0, 5}, 7),
		"ten stations":     filled([]int{0, 1, 2, 3, 4, 5, 6, 7, 8, 9}, []int{0, 5}, 7),
		"equal stations":   filled([]int{0, 0}, []int{0, 5}, 7),
		"station below 0":  filled([]int{-1, 5}, []int{0, 5}, 7),
		"great station":    filled([]int{0, api.MaxAlong + 1}, []int{0, 5}, 7),
		"no waters":        filled([]int{0, 10}, nil, 7),
		"one water":        filled([]int{0, 10}, []int{0}, 7),
		"eight waters":     filled([]int{0, 10}, []int{0, 1, 2, 3, 4, 5, 6, 7}, 7),
		"ten waters":       filled([]int{0, 10}, []int{0, 1, 2, 3, 4, 5, 6, 7, 8, 9}, 7),
		"falling waters":   filled([]int{0, 10}, []int{5, 4}, 7),
		"water below 0":    filled([]int{0, 10}, []int{-5, 4}, 7),
		"great water":      filled([]int{0, 10}, []int{0, api.MaxUp + 1}, 7),
		"no rows":          with(func(t *api.Table) { t.Halves = nil }),
		"a row too few":    with(func(t *api.Table) { t.Halves = t.Halves[:2] }),
		"a row more":       with(func(t *api.Table) { t.Halves = append(t.Halves, []int{7, 7}) }),
		"nil row":          with(func(t *api.Table) { t.Halves[1] = nil }),
		"short row":        with(func(t *api.Table) { t.Halves[2] = []int{7} }),
		"long row":         with(func(t *api.Table) { t.Halves[0] = []int{7, 7, 7} }),
		"half below 0":     with(func(t *api.Table) { t.Halves[2][1] = -1 }),
		"great half":       with(func(t *api.Table) { t.Halves[0][0] = api.MaxHalf + 1 }),
		"least half":       with(func(t *api.Table) { t.Halves[1][0] = math.MinInt }),
		"greatest half":    with(func(t *api.Table) { t.Halves[1][1] = math.MaxInt }),
		"greatest station": filled([]int{0, math.MaxInt}, []int{0, 5}, 7),
		"least water":      filled([]int{0, 10}, []int{math.MinInt, 5}, 7),
	}
}

func TestCheckTable(t *testing.T) {
	for i, x := range validTables() {
		if e := weigh.CheckTable(x); e != api.OK {
			t.Error(i, e)
		}
	}
	for name, x := range broken() {
		if e := weigh.CheckTable(x); e != api.ErrTable {
			t.Error(name, e)
		}
		if n, e := weigh.Volume(x); n != 0 || e != api.ErrTable {
			t.Error(name, "Volume", n, e)
		}
		if n, e := weigh.Litres(x); n != 0 || e != api.ErrTable {
			t.Error(name, "Litres", n, e)
		}
		if s, e := weigh.Print(x); s != "" || e != api.ErrTable {
			t.Error(name, "Print", s, e)
		}
	}
}

func TestGrid(t *testing.T) {
	for i, x := range validTables() {
		along, _ := weigh.Weights(x.Stations)
		up, _ := weigh.Weights(x.Waters)
		grid, e := weigh.Grid(x.Stations, x.Waters)
		if e != api.OK || len(grid) != len(along) {
			t.Fatal(i, grid, e)
		}
		for j, row := range grid {
			if len(row) != len(up) {
				t.Fatal(i, row)
			}
			for k := range row {
				if row[k] != along[j]*up[k] {
					t.Error(i, j, k, row[k])
				}
			}
		}
	}
	for _, c := range []struct{ stations, waters []int }{
		{[]int{0}, []int{0, 5}}, {[]int{0, 5}, []int{0}}, {nil, nil}, {[]int{0, 5}, nil}, {nil, []int{0, 5}},
		{[]int{0, 5}, []int{0, api.MaxUp + 1}}, {[]int{0, 5}, []int{0, 1, 2, 3, 4, 5, 6, 7}}, {[]int{0, 5}, []int{-1, 1}},
		{[]int{0, api.MaxAlong + 1}, []int{0, 5}}, {[]int{5, 0}, []int{0, 5}}, {[]int{0, 5}, []int{5, 0}},
		{[]int{0, 1, 2, 3, 4, 5, 6, 7, 8, 9}, []int{0, 5}},
	} {
		if grid, e := weigh.Grid(c.stations, c.waters); len(grid) != 0 || e != api.ErrPlaces {
			t.Error(c, grid, e)
		}
	}
	if grid, e := weigh.Grid([]int{0, 5}, []int{0, 3}); e != api.OK || len(grid) != 2 || !slices.Equal(grid[0], []int{4860, 4860}) || !slices.Equal(grid[1], []int{4860, 4860}) {
		t.Error(grid, e)
	}
}

func TestVolumeExamples(t *testing.T) {
	pit := filled([]int{0, 10, 40}, []int{0, 1000}, 0)
	pit.Halves[0] = []int{api.MaxHalf, api.MaxHalf}
	shallow := filled([]int{0, 1, 4}, []int{0, 1}, 0)
	shallow.Halves[0][0] = 1
	for _, c := range []struct {
		table          api.Table
		volume, litres int
	}{
		{filled([]int{0, 1000, 2000}, []int{0, 1000}, 500), 2592000000000, 2000},
		{filled([]int{0, 1}, []int{0, 1}, 0), 0, 0},
		{filled([]int{0, api.MaxAlong}, []int{0, api.MaxUp}, api.MaxHalf), 77760000000000000, 60000000},
		// 999998, 1000000 and 1999998 cubic millimetres of both sides.
		{filled([]int{0, 3937}, []int{0, 127}, 1), 1296 * 999998, 0},
		{filled([]int{0, 50}, []int{0, 100}, 100), 1296 * 1000000, 1},
		{filled([]int{0, 999}, []int{0, 1001}, 1), 1296 * 1999998, 1},
		// Weights below 0 make volumes below 0; litres are rounded down, not towards 0.
		{pit, 2 * -240 * 2 * 18000 * api.MaxHalf, -267},
		{shallow, 2 * -24 * 18, -1},
	} {
		if n, e := weigh.Volume(c.table); n != c.volume || e != api.OK {
			t.Error(c.table, "Volume", n, e, "want", c.volume)
		}
		if n, e := weigh.Litres(c.table); n != c.litres || e != api.OK {
			t.Error(c.table, "Litres", n, e, "want", c.litres)
		}
	}
}

func TestVolumeIsASumOfAreas(t *testing.T) {
	for i, x := range validTables() {
		along, _ := weigh.Weights(x.Stations)
		up, _ := weigh.Weights(x.Waters)
		byStations, byWaters := 0, 0
		for j, row := range x.Halves {
			area, _ := weigh.Area(x.Waters, row)
			byStations += 2 * along[j] * area
		}
		for k := range x.Waters {
			var line []int
			for _, row := range x.Halves {
				line = append(line, row[k])
			}
			area, _ := weigh.Area(x.Stations, line)
			byWaters += 2 * up[k] * area
		}
		n, e := weigh.Volume(x)
		if e != api.OK || n != byStations || n != byWaters {
			t.Error(i, n, e, byStations, byWaters)
		}
		litres, e := weigh.Litres(x)
		floor := new(big.Int).Div(big.NewInt(int64(n)), big.NewInt(1296000000)) // Euclidean: down for a divisor above 0
		if e != api.OK || int64(litres) != floor.Int64() {
			t.Error(i, litres, e, floor)
		}
	}
}
