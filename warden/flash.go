package warden

// flash is the two halves.
type flash [2]image

const flashSize = 2 * imageSize

func flashOf(bytes string) flash {
	var f flash
	copy(f[0][:], bytes[:imageSize])
	copy(f[1][:], bytes[imageSize:])
	return f
}

func (f *flash) text() string {
	return string(f[0][:]) + string(f[1][:])
}

// kept tells which half holds what is kept; false, if none is right.
func (f *flash) kept() (int, bool) {
	first, second := f[0].right(), f[1].right()
	if second && (!first || f[1].number() > f[0].number()) {
		return 1, true
	}
	return 0, first
}

// write puts an image with the next number where what is kept now is not. The
// mark comes last, so that a half that is not whole does not count.
func (f *flash) write(work *image) {
	half, _ := f.kept()
	other := 1 - half
	work.turnNumber()
	f.put(other, markAt, 0)
	for at := markAt + 1; at < imageSize; at++ {
		f.put(other, at, work[at])
	}
	f.put(other, markAt, mark)
}

func (f *flash) put(half, at int, b byte) {
	f[half][at] = b
}
