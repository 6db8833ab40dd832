package warden

const (
	maxPin   = 8
	maxKey   = 20
	slots    = 4
	maxTries = 5

	mark = 0xa7

	// Where the parts of an image stand.
	markAt    = 0
	numberAt  = 1
	triesAt   = 5
	pinAt     = 6
	keysAt    = pinAt + pinRoom
	checkAt   = keysAt + slots*keyRoom
	imageSize = checkAt + 1

	pinRoom = 1 + maxPin
	keyRoom = 1 + maxKey

	lastNumber = 1<<32 - 1
)

// image is laid out as the flash has it, so that no second copy of a key has
// to be made to write it.
type image [imageSize]byte

// pinField and keyField have the length ahead of the bytes, and bytes 0 behind
// them: so two PINs are the same just if the arrays are.
type (
	pinField [pinRoom]byte
	keyField [keyRoom]byte
)

// pinOf makes a PIN of a text; false, if it has not 1 to maxPin bytes.
func pinOf(text string) (pinField, bool) {
	var pin pinField
	fits := text != "" && fill(pin[:], text)
	return pin, fits
}

// keyOf makes a key of a text, no key of an empty one; false, if it has more
// than maxKey bytes.
func keyOf(text string) (keyField, bool) {
	var key keyField
	fits := fill(key[:], text)
	return key, fits
}

func (k *keyField) none() bool {
	return k[0] == 0
}

// fill lays a text into a field of bytes 0; false, if it has no room there.
func fill(field []byte, text string) bool {
	if len(text) >= len(field) {
		return false
	}
	field[0] = byte(len(text))
	copy(field[1:], text)
	return true
}

func rightField(field []byte) bool {
	length := int(field[0])
	if length >= len(field) {
		return false
	}
	for _, b := range field[1+length:] {
		if b != 0 {
			return false
		}
	}
	return true
}

func firstImage(pin pinField) image {
	var first image
	first[triesAt] = maxTries
	*first.pin() = pin
	first.turnNumber()
	first[markAt] = mark
	return first
}

func (i *image) right() bool {
	return i[markAt] == mark &&
		i.number() != 0 &&
		i[triesAt] <= maxTries &&
		i[pinAt] != 0 && rightField(i.pin()[:]) &&
		i.rightKeys() &&
		i[checkAt] == i.check()
}

func (i *image) rightKeys() bool {
	for slot := range slots {
		if !rightField(i.key(slot)[:]) {
			return false
		}
	}
	return true
}

func (i *image) number() uint32 {
	return word(i[numberAt], i[numberAt+1], i[numberAt+2], i[numberAt+3])
}

// turnNumber makes it the image that is to be written next.
func (i *image) turnNumber() {
	next := fourBytes(i.number() + 1)
	copy(i[numberAt:triesAt], next[:])
	i[checkAt] = i.check()
}

func (i *image) check() byte {
	return checkOf(i[numberAt:checkAt])
}

func (i *image) worn() bool {
	return i.number() == lastNumber
}

func (i *image) pin() *pinField {
	return (*pinField)(i[pinAt:keysAt])
}

func (i *image) key(slot int) *keyField {
	at := keysAt + slot*keyRoom
	return (*keyField)(i[at : at+keyRoom])
}

func (i *image) dropKeys() {
	clear(i[keysAt:checkAt])
}

// slotBits has a bit for each slot that has a key.
func (i *image) slotBits() byte {
	var told byte
	for slot := range slots {
		if !i.key(slot).none() {
			told |= 1 << slot
		}
	}
	return told
}

func (i *image) wipe() {
	*i = image{}
}

// checkOf is the check of a frame and of an image.
func checkOf[T string | []byte](bytes T) byte {
	sum := byte(1)
	for i := range len(bytes) {
		sum += bytes[i]
	}
	return sum
}
