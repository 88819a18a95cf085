package disk

import (
	"slices"

	"muniment/api"
)

// sectors is how many sectors a page has.
const sectors = api.PageSize / api.SectorSize

// chosen tells choice's i-th byte.
func chosen(choice []byte, i int) int {
	if i < len(choice) {
		return int(choice[i])
	}
	return 0
}

// Crash tells a new device that holds what the choice leaves of this one.
func (d *Disk) Crash(choice []byte) *Disk {
	if d == nil {
		return nil
	}
	out := &Disk{sure: slices.Clone(d.sure), last: map[int]*leaf{}, room: d.room, mark: slices.Clone(d.mark)}
	for i, w := range d.wait {
		if chosen(choice, i)&1 == 0 {
			out.sure[w.page] = w.b
		}
	}
	if d.torn != nil {
		out.tear(*d.torn, chosen(choice, len(d.wait))/2%(sectors+1))
	}
	late := append(slices.Clone(d.log[d.kept:]), d.half...)
	k := (chosen(choice, 0) + 256*chosen(choice, 1)) % (len(late) + 1)
	out.log = append(slices.Clone(d.log[:d.kept]), late[:k]...)
	out.kept = len(out.log)
	return out
}

// tear writes the first n sectors of a write.
func (d *Disk) tear(w wait, n int) {
	var p leaf
	if old := d.sure[w.page]; old != nil {
		p = *old
	}
	copy(p[:n*api.SectorSize], w.b[:])
	d.sure[w.page] = &p
}
