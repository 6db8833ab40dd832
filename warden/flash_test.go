package warden

import (
	"strings"
	"testing"
)

func TestNewTakesPinsOfOneToEightBytes(t *testing.T) {
	for length := 1; length <= 8; length++ {
		for _, pin := range []string{strings.Repeat("1", length), strings.Repeat("\x00", length), strings.Repeat("\xff", length)} {
			d := newDevice(t, pin)
			flashIs(t, d, imaged(1, 5, pin), noImage)
			ask(t, d, asked{7, "", 0, "\x00\x05\x00"}, asked{1, pin, 0, ""})
		}
	}
}

func TestNewRefusesOtherPins(t *testing.T) {
	for _, pin := range []string{"", "123456789", strings.Repeat("\x00", 9), strings.Repeat("1", 256), strings.Repeat("1", 257), strings.Repeat("1", 1<<20)} {
		if d, e := New(pin); d != nil || e != ErrPin {
			t.Errorf("P1, P4: New of %d bytes = %v, %d", len(pin), d, e)
		}
	}
}

// The bytes are written out here, not made by a helper.
func TestFlashOfANewDevice(t *testing.T) {
	want := "\xa7\x00\x00\x00\x01\x05\x041234\x00\x00\x00\x00" + strings.Repeat("\x00", 84) + "\xd5" + strings.Repeat("\x00", 100)
	s := newDevice(t, "1234").Flash()
	if len(s) != 200 || s != want {
		t.Errorf("P4: Flash = %q, want %q", s, want)
	}
}

func TestOpenRefusesOtherSizes(t *testing.T) {
	right := imaged(7, 3, "77") + imaged(8, 2, "88")
	for _, flash := range []string{"", right[:1], right[:100], right[:199], right + "\x00", right + right, right + right[:100], strings.Repeat("\x00", 1<<20)} {
		if d, e := Open(flash); d != nil || e != ErrFlash {
			t.Errorf("P1, P4: Open of %d bytes = %v, %d", len(flash), d, e)
		}
	}
}

func TestOpenRefusesAFlashWithoutARightHalf(t *testing.T) {
	right := imaged(7, 3, "77")
	for _, flash := range []string{noImage + noImage, strings.Repeat("\xff", 200), strings.Repeat("\xa7", 200), "\x00" + right[1:] + noImage, right[1:] + right + "\x00", "\x00" + right + right[:99]} {
		if d, e := Open(flash); d != nil || e != ErrFlash {
			t.Errorf("P1, P4: Open(%q) = %v, %d", flash, d, e)
		}
	}
}

// opensAs: the device keeps what has these tries, slots and PIN.
func opensAs(t *testing.T, flash, told, pin string) {
	t.Helper()
	d := opened(t, flash)
	flashIs(t, d, flash, "")
	ask(t, d, asked{7, "", 0, "\x00" + told}, asked{4, "\x00m", 2, ""}, asked{1, pin, 0, ""})
}

func TestOpenKeepsTheRightHalfWithTheGreaterNumber(t *testing.T) {
	a := imaged(7, 3, "77", "k")
	const asA = "\x03\x01"
	b := imaged(8, 2, "88", "", "k", "", "k")
	const asB = "\x02\x0a"
	opensAs(t, a+noImage, asA, "77")
	opensAs(t, noImage+a, asA, "77")
	opensAs(t, a+b, asB, "88")
	opensAs(t, b+a, asB, "88")
	opensAs(t, a+imaged(7, 2, "88", "", "k", "", "k"), asA, "77")
	opensAs(t, imaged(7, 2, "88", "", "k", "", "k")+a, asB, "88")
	for _, pair := range [][2]uint32{{1, 2}, {255, 256}, {0x00ffffff, 0x01000000}, {0x010000ff, 0x02000000}, {0x7fffffff, 0x80000000}, {5, 0xfffffff0}} {
		low, high := imaged(pair[0], 3, "77", "k"), imaged(pair[1], 2, "88", "", "k", "", "k")
		opensAs(t, low+high, asB, "88")
		opensAs(t, high+low, asB, "88")
	}
}

func TestOpenOfAllTriesAndLengths(t *testing.T) {
	for tries := range 6 {
		ask(t, opened(t, imaged(9, tries, "9")+noImage), asked{7, "", 0, "\x00" + string([]byte{byte(tries)}) + "\x00"})
	}
	for length := 1; length <= 8; length++ {
		pin := mixedText(length)
		ask(t, opened(t, noImage+imaged(9, 1, pin)), asked{1, pin, 0, ""})
	}
	for length := 1; length <= 20; length++ {
		key := mixedText(length)
		seal := wantedSeal(key, "m")
		ask(t, opened(t, noImage+imaged(9, 1, "9", "", key)), asked{7, "", 0, "\x00\x01\x02"}, asked{1, "9", 0, ""}, asked{4, "\x01m", 0, string(seal[:])})
	}
}

// changed sets one byte of an image, and makes the check right again.
func changed(image string, at int, to byte) string {
	return image[:1] + checked(image[1:at]+string([]byte{to})+image[at+1:99])
}

// isWrong: the half does not count, alone or beside a right one with a smaller number.
func isWrong(t *testing.T, what, half string) {
	t.Helper()
	for _, flash := range []string{half + noImage, noImage + half, half + half} {
		if d, e := Open(flash); d != nil || e != ErrFlash {
			t.Errorf("P4: Open of a half with %s = %v, %d", what, d, e)
		}
	}
	right := imaged(1, 3, "77", "k")
	opensAs(t, half+right, "\x03\x01", "77")
	opensAs(t, right+half, "\x03\x01", "77")
}

func TestOpenOfHalvesThatAreWrongInOneThing(t *testing.T) {
	right := imaged(0x09000000, 3, "1234", "k0", mixedText(20), "", "k3")
	opensAs(t, right+noImage, "\x03\x0b", "1234")
	for _, mark := range []byte{0x00, 0xa5, 0xa6, 0xa8, 0x27, 0xff} {
		isWrong(t, "another mark", string([]byte{mark})+right[1:])
	}
	isWrong(t, "the number 0", changed(right, 1, 0))
	for _, tries := range []byte{6, 7, 128, 255} {
		isWrong(t, "too many tries", changed(right, 5, tries))
	}
	for _, length := range []byte{0, 1, 2, 3, 9, 10, 20, 128, 255} {
		isWrong(t, "a wrong length of the PIN", changed(right, 6, length))
	}
	isWrong(t, "no PIN", imaged(9, 3, "", "k0"))
	for slot := range 4 {
		at := 15 + 21*slot
		for _, length := range []byte{21, 22, 84, 128, 255} {
			isWrong(t, "a wrong length of a key", changed(right, at, length))
		}
	}
	for _, at := range []int{15, 36, 78} {
		isWrong(t, "bytes of a key that has a smaller length", changed(right, at, right[at]-1))
		isWrong(t, "bytes of a key of no length", changed(right, at, 0))
	}
}

func TestOpenOfHalvesWithBytesBehindAPinOrAKey(t *testing.T) {
	right := imaged(9, 3, "1234", "k0", mixedText(20), "", "k3")
	for _, behind := range [][2]int{{11, 15}, {18, 36}, {58, 78}, {81, 99}} {
		for at := behind[0]; at < behind[1]; at++ {
			isWrong(t, "a byte behind a PIN or a key", changed(right, at, 1))
			isWrong(t, "a byte behind a PIN or a key", changed(right, at, 0xff))
		}
	}
}

func TestOpenOfHalvesWithAWrongSum(t *testing.T) {
	right := imaged(0x09000000, 3, "1234", "k0", mixedText(20), "", "k3")
	for _, more := range []byte{1, 2, 127, 128, 254, 255} {
		isWrong(t, "a wrong sum", right[:99]+string([]byte{right[99] + more}))
	}
	for at := range 100 {
		isWrong(t, "one bit turned", right[:at]+string([]byte{right[at] ^ 0x10})+right[at+1:])
	}
}

func TestAWrongHalfMayStandInTheFlashOfADevice(t *testing.T) {
	half := strings.Repeat("\xff", 100)
	d := opened(t, half+imaged(9, 5, "1"))
	ask(t, d, asked{1, "0", 3, "\x04"})
	flashIs(t, d, imaged(10, 4, "1"), imaged(9, 5, "1"))
	d = opened(t, imaged(9, 5, "1")+half)
	ask(t, d, asked{1, "0", 3, "\x04"})
	flashIs(t, d, imaged(9, 5, "1"), imaged(10, 4, "1"))
}

func TestAWriteGoesIntoTheHalfThatIsNotKept(t *testing.T) {
	d := opened(t, imaged(7, 5, "1")+imaged(7, 5, "2"))
	ask(t, d, asked{1, "0", 3, "\x04"})
	flashIs(t, d, imaged(7, 5, "1"), imaged(8, 4, "1"))
	d = opened(t, imaged(7, 5, "1")+imaged(0xff, 5, "2", "k"))
	ask(t, d, asked{1, "0", 3, "\x04"})
	flashIs(t, d, imaged(0x100, 4, "2", "k"), imaged(0xff, 5, "2", "k"))
	d = opened(t, imaged(0x00ffffff, 5, "1")+imaged(7, 5, "2", "k"))
	ask(t, d, asked{1, "0", 3, "\x04"})
	flashIs(t, d, imaged(0x00ffffff, 5, "1"), imaged(0x01000000, 4, "1"))
}

func TestWipeLeavesBytesZero(t *testing.T) {
	work := flashOf(imaged(9, 3, "1234", "k", "k", "k", "k") + noImage)[0]
	work.wipe()
	if work != (image{}) {
		t.Errorf("a wiped copy still has %q", string(work[:]))
	}
}
