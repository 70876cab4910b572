package disk

import (
	"chaff/api"
)

// Arm arms the disk.
func (d *Disk) Arm(n int) { d.armed = n }

// goesOff counts down, if the disk is armed, and tells whether this is the write or sync that fails.
func (d *Disk) goesOff() bool {
	if d.armed <= 0 {
		return false
	}
	d.armed--
	return d.armed == 0
}

// Crash keeps some of what waits.
func (d *Disk) Crash(keep []bool) {
	told := min(len(keep), len(d.waits))
	for j, w := range d.waits[:told:told] {
		if keep[j] {
			d.lasts[w.at] = w.text
		}
	}
	d.empty()
}

// Rot turns bits of what lasts. A write of the sector that waits is read as before, as it stands apart.
func (d *Disk) Rot(i, at int, by byte) {
	if d.has(i) && at >= 0 && at < api.Sector {
		d.lasts[i][at] ^= by
	}
}
