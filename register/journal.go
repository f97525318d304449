package register

import (
	"slices"

	"moorsom/api"
)

// A journal is a drive, and what is in memory of it.
type journal struct {
	api.Drive
	api.Memory
}

// isSound reports whether the memory is that of the drive.
func (j *journal) isSound() bool {
	if !isDrive(j.Drive) || !inside(j.File, 0, 1) || Check(j.Register) != api.OK {
		return false
	}
	file, other := j.Files[j.File], j.Files[1-j.File]
	c, counts := contentOf(file)
	if !counts || c.generation != j.Generation || c.size < len(file.Bytes) || len(other.Bytes) > 0 {
		return false
	}
	// No two records of a valid register are of one place, so that none are here.
	slices.SortFunc(c.records, byAt)
	return slices.Equal(c.records, j.Register.Records)
}

// journalOf is a copy of a drive and its memory.
func journalOf(d api.Drive, m api.Memory) (*journal, api.Errno) {
	j := &journal{d, m}
	if !j.isSound() {
		return nil, api.ErrDrive
	}
	j.Drive = cloneDrive(d)
	j.Register = cloneRegister(m.Register)
	return j, api.OK
}

// write puts a record into the register and, if it is new there, its frame
// behind the bytes of the file.
func (j *journal) write(r api.Record) api.Errno {
	g, e := Add(j.Register, r)
	if e != api.OK {
		return e
	}
	if len(g.Records) > len(j.Register.Records) {
		file := &j.Files[j.File]
		file.Bytes = appendFrame(file.Bytes, r)
	}
	j.Register = g
	return api.OK
}

// packed is a file of the next generation, of which nothing is firm yet. Its
// count keeps it from counting ahead of being whole.
func (j *journal) packed() api.File {
	b := head(j.Generation+1, len(j.Register.Records))
	for _, r := range j.Register.Records {
		b = appendFrame(b, r)
	}
	return api.File{Bytes: b}
}

// New returns an empty drive and its journal.
func New() (api.Drive, api.Memory) {
	b := head(1, 0)
	return api.Drive{Files: [2]api.File{{Bytes: b, Firm: len(b)}}}, api.Memory{Generation: 1}
}

// Open returns what a drive has.
func Open(d api.Drive) (api.Drive, api.Memory, api.Errno) {
	if !isDrive(d) {
		return api.Drive{}, api.Memory{}, api.ErrDrive
	}
	var latest content
	var m api.Memory
	for i, f := range d.Files {
		if c, counts := contentOf(f); counts && c.generation > latest.generation {
			latest, m.File = c, i
		}
	}
	slices.SortFunc(latest.records, byAt)
	m.Register.Records, m.Generation = latest.records, latest.generation
	if m.Generation == 0 || Check(m.Register) != api.OK { // none counts, or two are of one place
		return api.Drive{}, api.Memory{}, api.ErrFile
	}
	var opened api.Drive
	opened.Files[m.File] = copied(d.Files[m.File], latest.size)
	return opened, m, api.OK
}

// Append puts a record into a journal.
func Append(d api.Drive, m api.Memory, r api.Record) (api.Drive, api.Memory, api.Errno) {
	j, e := journalOf(d, m)
	if e != api.OK {
		return api.Drive{}, api.Memory{}, e
	}
	if e := j.write(r); e != api.OK {
		return api.Drive{}, api.Memory{}, e
	}
	return j.Drive, j.Memory, api.OK
}

// Pack writes a journal into the other file; it returns the drives on the way.
func Pack(d api.Drive, m api.Memory) ([]api.Drive, api.Memory, api.Errno) {
	j, e := journalOf(d, m)
	if e != api.OK {
		return nil, api.Memory{}, e
	}
	if j.Generation == maxGeneration {
		return nil, api.Memory{}, api.ErrDrive
	}
	old, next := j.File, 1-j.File
	synced := Sync(j.Drive)
	written := cloneDrive(synced)
	written.Files[next] = j.packed()
	firm := Sync(written)
	packed := cloneDrive(firm)
	packed.Files[old] = api.File{}
	j.File = next
	j.Generation++
	return []api.Drive{synced, written, firm, packed}, j.Memory, api.OK
}
