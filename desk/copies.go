package desk

import (
	"slices"

	"moorsom/api"
)

// What a desk hands out shares no memory with what it keeps.

func copyOffice(o api.Office) api.Office {
	for i, f := range o.Drive.Files {
		o.Drive.Files[i].Bytes = slices.Clone(f.Bytes)
	}
	o.Memory.Register.Records = slices.Clone(o.Memory.Register.Records)
	for i, l := range o.Known {
		o.Known[i] = slices.Clone(l)
	}
	return o
}

func copyLaws(laws []api.Law) []api.Law {
	laws = slices.Clone(laws)
	for i := range laws {
		c := &laws[i].Code
		c.Versions = slices.Clone(c.Versions)
		for j := range c.Versions {
			copyInside(&c.Versions[j])
		}
	}
	return laws
}

// copyInside puts copies into the place of what a version holds.
func copyInside(v *api.Version) {
	v.Puts = slices.Clone(v.Puts)
	for i, p := range v.Puts {
		v.Puts[i].Tests = slices.Clone(p.Tests)
	}
	for formula := range v.Lines {
		for g, pieces := range v.Lines[formula] {
			v.Lines[formula][g] = slices.Clone(pieces)
		}
	}
}
