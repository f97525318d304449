package dues

import "moorsom/api"

// copied is a list in new memory. What its items hold is copied by deep, if
// they hold anything.
func copied[T any](list []T, deep func(*T)) []T {
	if len(list) == 0 {
		return nil
	}
	fresh := make([]T, len(list))
	copy(fresh, list)
	if deep != nil {
		for i := range fresh {
			deep(&fresh[i])
		}
	}
	return fresh
}

func copyEvent(x *api.Event) {
	x.Space.Stations = copied(x.Space.Stations, nil)
	x.Space.Waters = copied(x.Space.Waters, nil)
}

func copyPut(p *api.Put) { p.Tests = copied(p.Tests, nil) }

func copyVersion(v *api.Version) {
	v.Puts = copied(v.Puts, copyPut)
	for formula := range v.Lines {
		for g, pieces := range v.Lines[formula] {
			v.Lines[formula][g] = copied(pieces, nil)
		}
	}
}

func copyLaw(l *api.Law) { l.Code.Versions = copied(l.Code.Versions, copyVersion) }

// copyFiles copies files with all that they hold.
func copyFiles(f api.Files) api.Files {
	return api.Files{
		Events:   copied(f.Events, copyEvent),
		Laws:     copied(f.Laws, copyLaw),
		Passages: copied(f.Passages, nil),
	}
}
