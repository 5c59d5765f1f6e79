package disk

// Room sets the disk's room to n, or to the end of what may be that is next
// to n; what the disk holds stays.
func (d *Disk) Room(n int) {
	if d != nil {
		d.room = min(max(n, 0), maxRoom)
	}
}

// Fuel lets the disk do n more steps; without a limit, if n is below 0.
func (d *Disk) Fuel(n int) {
	if d != nil {
		d.limited, d.fuel = n >= 0, n
	}
}

// Down tells whether the disk does nothing till it falls.
func (d *Disk) Down() bool {
	return d == nil || d.down
}

// Fall keeps of the kth file's pending bytes as many as keep says there, and
// these are sure; the disk is up then, without a limit of steps.
func (d *Disk) Fall(keep []int) {
	if d == nil {
		return
	}
	for k, name := range d.Names() {
		kept := 0
		if k < len(keep) {
			kept = keep[k]
		}
		d.used -= d.files[name].fall(kept)
	}
	d.down, d.limited, d.fuel = false, false, 0
}

// fall cuts the file's pending bytes down to n of them, makes those sure, and
// answers how many bytes are gone.
func (f *file) fall(n int) int {
	was := len(f.data)
	n = min(max(n, 0), was-f.sure)
	f.sure += n
	f.data = f.data[:f.sure]
	return was - f.sure
}

// useFuel tells whether there is fuel for one more step, and uses it; where
// there is none the disk goes down.
func (d *Disk) useFuel() bool {
	if !d.limited {
		return true
	}
	if d.fuel <= 0 {
		d.down = true
		return false
	}
	d.fuel--
	return true
}
