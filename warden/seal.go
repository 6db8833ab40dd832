package warden

const (
	outerMask = 0x5c
	innerMask = 0x36

	codeDigits = 6
	codeLimit  = 1000000
)

func sealBy(key keyField, message string) [32]byte {
	inner := sumBehind(maskedStart(key, innerMask), blockSize, message)
	return sumBehind(maskedStart(key, outerMask), blockSize, string(inner[:]))
}

// maskedStart begins a sum with the masked key, which is just one block. The
// key's length is left out: what is behind a key are bytes 0 in any case.
func maskedStart(key keyField, mask byte) [8]uint32 {
	var block [blockSize]byte
	copy(block[:], key[1:])
	for i := range blockSize {
		block[i] ^= mask
	}
	return turnBlock(startWords, block)
}

// codeBy takes the number's 8 bytes: the device is asked for codes of more
// numbers than an int holds.
func codeBy(key keyField, number string) string {
	seal := sealBy(key, number)
	n := seal[31] % 16
	x := word(seal[n]&0x7f, seal[n+1], seal[n+2], seal[n+3])
	return sixDigits(x % codeLimit)
}

func sixDigits(x uint32) string {
	var digits [codeDigits]byte
	for i := codeDigits - 1; i >= 0; i-- {
		digits[i] = '0' + byte(x%10)
		x /= 10
	}
	return string(digits[:])
}
