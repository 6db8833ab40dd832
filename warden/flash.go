package warden

// flash is the two halves.
type flash [2]image

const flashSize = 2 * imageSize

func flashOf(bytes string) flash {
	var f flash
	copy(f[0][:], bytes[:imageSize])
	copy(f[1][:], bytes[imageSize:])
	return f
}

func (f *flash) text() string {
	return string(f[0][:]) + string(f[1][:])
}

// kept tells which half holds what is kept; false, if none is right.
func (f *flash) kept() (int, bool) {
	first, second := f[0].right(), f[1].right()
	if second && (!first || f[1].number() > f[0].number()) {
		return 1, true
	}
	return 0, first
}

// write puts an image with the next number where what is kept now is not. The
// mark comes last, so that a half that is not whole does not count.
func (d *Device) write(work *image) {
	half, _ := d.flash.kept()
	other := 1 - half
	work.turnNumber()
	d.put(other, markAt, 0)
	for at := markAt + 1; at < imageSize; at++ {
		d.put(other, at, work[at])
	}
	d.put(other, markAt, mark)
}

func (d *Device) put(half, at int, b byte) {
	d.power.spend()
	d.flash[half][at] = b
}
