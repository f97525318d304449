package register

import "moorsom/api"

func isDrive(d api.Drive) bool {
	for _, f := range d.Files {
		if len(f.Bytes) > maxBytes || !inside(f.Firm, 0, len(f.Bytes)) {
			return false
		}
	}
	return true
}

// copied is a file with so many of another one's bytes, all of them firm.
func copied(f api.File, many int) api.File {
	b := make([]byte, many)
	copy(b, f.Bytes)
	return api.File{Bytes: b, Firm: many}
}

func cloneDrive(d api.Drive) api.Drive {
	for i, f := range d.Files {
		d.Files[i] = copied(f, len(f.Bytes))
		d.Files[i].Firm = f.Firm
	}
	return d
}

// Sync makes all bytes firm.
func Sync(d api.Drive) api.Drive {
	if !isDrive(d) {
		return cloneDrive(d)
	}
	for i, f := range d.Files {
		d.Files[i] = copied(f, len(f.Bytes))
	}
	return d
}

// modulo is a modulo n, which is above 0.
func modulo(a, n int) int { return (a%n + n) % n }

// Crash is a drive behind a failure of the power.
func Crash(d api.Drive, kept [2]int) api.Drive {
	if !isDrive(d) {
		return cloneDrive(d)
	}
	for i, f := range d.Files {
		others := len(f.Bytes) - f.Firm
		d.Files[i] = copied(f, f.Firm+modulo(kept[i], others+1))
	}
	return d
}
