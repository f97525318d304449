package life

import (
	"slices"

	"moorsom/api"
)

// Nil and empty lists are the same value, so that what has lists is compared
// and copied part by part.

func sameSpace(a, b api.Space) bool {
	return a.Id == b.Id && a.Source == b.Source && a.Fair == b.Fair &&
		slices.Equal(a.Stations, b.Stations) && slices.Equal(a.Waters, b.Waters)
}

func sameEvent(a, b api.Event) bool {
	return a.At == b.At && a.Kind == b.Kind && a.Ship == b.Ship && a.Day == b.Day && a.Known == b.Known &&
		a.Room == b.Room && a.Num == b.Num && a.Opening == b.Opening && a.Crew == b.Crew &&
		a.Reading == b.Reading && a.Compare == b.Compare && a.Of == b.Of && sameSpace(a.Space, b.Space)
}

func sameSurvey(a, b api.Survey) bool {
	return sameSpace(a.Space, b.Space) && slices.Equal(a.Readings, b.Readings) && slices.Equal(a.Compares, b.Compares)
}

func sameCell(a, b api.Cell) bool { return a.Room == b.Room && sameSurvey(a.Survey, b.Survey) }

func sameState(a, b api.State) bool {
	return a.Ship == b.Ship && a.Flag == b.Flag && sameSurvey(a.Hull, b.Hull) &&
		slices.EqualFunc(a.Cells, b.Cells, sameCell)
}

func cloneSpace(s api.Space) api.Space {
	s.Stations = slices.Clone(s.Stations)
	s.Waters = slices.Clone(s.Waters)
	return s
}

func cloneEvent(x api.Event) api.Event {
	x.Space = cloneSpace(x.Space)
	return x
}

func cloneEvents(l []api.Event) []api.Event {
	var copied []api.Event
	for _, x := range l {
		copied = append(copied, cloneEvent(x))
	}
	return copied
}
