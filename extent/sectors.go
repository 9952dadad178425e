package extent

import "amber/api"

// device: all that the table does with the disk; it has no way to arm, crash or edit it.
type device interface {
	Read(sector int) ([]byte, api.Errno)
	Write(sector int, data []byte) api.Errno
	Flush() api.Errno
}

// Read tells a sector of a claimed extent.
func (t *Table) Read(n, sector int) ([]byte, api.Errno) {
	at, code := t.locate(n, sector)
	if code != api.OK {
		return nil, code
	}
	return t.device.Read(at)
}

// Write writes one.
func (t *Table) Write(n, sector int, data []byte) api.Errno {
	at, code := t.locate(n, sector)
	if code != api.OK {
		return code
	}
	return t.device.Write(at, data)
}

// Flush flushes the disk.
func (t *Table) Flush() api.Errno { return t.device.Flush() }

// locate tells which sector of the disk a claimed extent's sector is; it is the only way to one, so that no call gets past an extent's bounds.
func (t *Table) locate(n, sector int) (int, api.Errno) {
	if !t.claimed(n) {
		return 0, api.ErrExtent
	}
	if sector < 0 || sector >= api.ExtSectors {
		return 0, api.ErrSector
	}
	return n*api.ExtSectors + sector, api.OK
}
