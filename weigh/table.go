package weigh

import "moorsom/api"

// litre is a litre in units of Volume.
const litre = api.Scale * api.Scale * 1000000

// checkPlan checks the stations, and then the waters, of a table.
func checkPlan(stations, waters []int) api.Errno {
	if e := CheckPlaces(stations); e != api.OK {
		return e
	}
	if e := CheckPlaces(waters); e != api.OK {
		return e
	}
	if len(waters) > api.MaxWaters || !within(waters, 0, api.MaxUp) {
		return api.ErrPlaces
	}
	return api.OK
}

// CheckTable reports whether a table is valid.
func CheckTable(t api.Table) api.Errno {
	if checkPlan(t.Stations, t.Waters) != api.OK || len(t.Halves) != len(t.Stations) {
		return api.ErrTable
	}
	for _, row := range t.Halves {
		if len(row) != len(t.Waters) || !within(row, 0, api.MaxHalf) {
			return api.ErrTable
		}
	}
	return api.OK
}

// gridOf returns the weights of a table with valid stations and waters.
func gridOf(stations, waters []int) [][]int {
	up := weightsOf(waters)
	grid := make([][]int, 0, len(stations))
	for _, along := range weightsOf(stations) {
		row := make([]int, 0, len(up))
		for _, weight := range up {
			row = append(row, along*weight)
		}
		grid = append(grid, row)
	}
	return grid
}

// Grid returns the weights of a table, station by station.
func Grid(stations, waters []int) ([][]int, api.Errno) {
	if e := checkPlan(stations, waters); e != api.OK {
		return nil, e
	}
	return gridOf(stations, waters), api.OK
}

// Volume is 1296 times the volume of a table, of both sides.
func Volume(t api.Table) (int, api.Errno) {
	if e := CheckTable(t); e != api.OK {
		return 0, e
	}
	side := 0
	for weights, row := range pairs(gridOf(t.Stations, t.Waters), t.Halves) {
		for weight, half := range pairs(weights, row) {
			side += weight * half
		}
	}
	return 2 * side, api.OK
}

// Litres is the volume of a table in litres, rounded down.
func Litres(t api.Table) (int, api.Errno) {
	volume, e := Volume(t)
	if e != api.OK {
		return 0, e
	}
	// A volume may be below 0, as weights may.
	return floorDiv(volume, litre), api.OK
}
