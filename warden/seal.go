package warden

const (
	maxKey = 20

	outerMask = 0x5c
	innerMask = 0x36

	codeDigits = 6
	codeLimit  = 1000000
)

// keyOf makes a key of a text, with bytes 0 behind it. A seal fills a key up
// with bytes 0 in any case, so the key's length is not needed beside it.
func keyOf(text string) ([maxKey]byte, bool) {
	var key [maxKey]byte
	if len(text) < 1 || len(text) > maxKey {
		return key, false
	}
	copy(key[:], text)
	return key, true
}

func sealBy(key [maxKey]byte, message string) [32]byte {
	inner := sumBehind(maskedStart(key, innerMask), blockSize, message)
	return sumBehind(maskedStart(key, outerMask), blockSize, string(inner[:]))
}

// maskedStart begins a sum with the masked key, which is just one block.
func maskedStart(key [maxKey]byte, mask byte) [8]uint32 {
	var block [blockSize]byte
	copy(block[:], key[:])
	for i := range blockSize {
		block[i] ^= mask
	}
	return turnBlock(startWords, block)
}

// codeBy takes all numbers of 8 bytes: the device is asked for codes of more
// numbers than an int holds.
func codeBy(key [maxKey]byte, number uint64) string {
	message := eightBytes(number)
	seal := sealBy(key, string(message[:]))
	n := seal[31] % 16
	x := word(seal[n]&0x7f, seal[n+1], seal[n+2], seal[n+3])
	return sixDigits(x % codeLimit)
}

func sixDigits(x uint32) string {
	var digits [codeDigits]byte
	for i := codeDigits - 1; i >= 0; i-- {
		digits[i] = '0' + byte(x%10)
		x /= 10
	}
	return string(digits[:])
}
