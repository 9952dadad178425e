package disk

import "amber/api"

// Arm: n more acts work, then the machine is down.
func (d *Disk) Arm(n int) api.Errno {
	if n < 0 {
		return api.ErrArg
	}
	if d.down {
		return api.ErrDown
	}
	d.armed, d.left = true, n
	return api.OK
}

// Down tells whether it is.
func (d *Disk) Down() bool { return d.down }

// Crash keeps the unflushed writes that keep names, and brings the disk up again.
func (d *Disk) Crash(keep []bool) int {
	d.armed, d.left, d.down = false, 0, false
	return d.settle(func(i int) bool { return i < len(keep) && keep[i] })
}

// act counts a write or flush about which nothing else is wrong, so that a refused one neither counts nor takes the disk down.
func (d *Disk) act() api.Errno {
	if d.armed && d.left == 0 {
		d.down = true
	}
	if d.down {
		return api.ErrDown
	}
	if d.armed {
		d.left--
	}
	d.acts++
	return api.OK
}
