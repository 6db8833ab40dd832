package warden

import (
	"encoding/binary"
	"math"
	"strings"
	"testing"
)

const eightZeroes = "\x00\x00\x00\x00\x00\x00\x00\x00"

func unlockedDevice(t *testing.T, pin string) *Device {
	t.Helper()
	d := newDevice(t, pin)
	ask(t, d, asked{1, pin, 0, ""})
	return d
}

func TestUnlock(t *testing.T) {
	d := newDevice(t, "1234")
	ask(t, d, asked{1, "1234", 0, ""}, asked{7, "", 0, "\x01\x05\x00"})
	flashIs(t, d, imaged(3, 5, "1234"), imaged(2, 4, "1234"))
	ask(t, d, asked{1, "1234", 0, ""}, asked{7, "", 0, "\x01\x05\x00"})
	flashIs(t, d, imaged(5, 5, "1234"), imaged(4, 4, "1234"))
}

func TestUnlockRefusesOtherLengths(t *testing.T) {
	for _, payload := range []string{"", "123456789", strings.Repeat("1", 48)} {
		d := newDevice(t, "1")
		ask(t, d, asked{1, payload, 4, ""}, asked{7, "", 0, "\x00\x05\x00"})
		flashIs(t, d, imaged(1, 5, "1"), noImage)
		ask(t, d, asked{1, "1", 0, ""}, asked{1, payload, 4, ""}, asked{7, "", 0, "\x01\x05\x00"})
		flashIs(t, d, imaged(3, 5, "1"), imaged(2, 4, "1"))
	}
}

func TestUnlockWithAWrongPin(t *testing.T) {
	for _, wrong := range []string{"1235", "0234", "123", "12344", "1234\x00", "1234\x00\x00\x00\x00", "\x00", "\x001234", "4321", "12341234"} {
		d := unlockedDevice(t, "1234")
		ask(t, d, asked{1, wrong, 3, "\x04"}, asked{7, "", 0, "\x00\x04\x00"})
		flashIs(t, d, imaged(3, 5, "1234"), imaged(4, 4, "1234"))
	}
	for _, pins := range [][2]string{{"1\x00", "1"}, {"\x00", "\x00\x00"}, {"\x00\x00", "\x00"}, {"12345678", "1234567"}, {"12345678", "12345679"}} {
		ask(t, newDevice(t, pins[0]), asked{1, pins[1], 3, "\x04"}, asked{1, pins[0], 0, ""})
	}
}

func TestTheRightPinGivesAllTriesBack(t *testing.T) {
	for wrong := range 5 {
		d := newDevice(t, "1")
		for left := 4; left > 4-wrong; left-- {
			ask(t, d, asked{1, "0", 3, string([]byte{byte(left)})})
		}
		ask(t, d, asked{1, "1", 0, ""}, asked{7, "", 0, "\x01\x05\x00"}, asked{1, "0", 3, "\x04"})
	}
}

func TestWrongPinsDownToNoTryLeft(t *testing.T) {
	d := unlockedDevice(t, "1234")
	ask(t, d, asked{3, "\x00k0", 0, ""}, asked{3, "\x01k1", 0, ""}, asked{3, "\x02k2", 0, ""}, asked{3, "\x03k3", 0, ""})
	for left := 4; left >= 1; left-- {
		ask(t, d, asked{1, "0", 3, string([]byte{byte(left)})}, asked{7, "", 0, "\x00" + string([]byte{byte(left)}) + "\x0f"})
	}
	flashIs(t, d, imaged(11, 1, "1234", "k0", "k1", "k2", "k3"), imaged(10, 2, "1234", "k0", "k1", "k2", "k3"))
	ask(t, d, asked{1, "0", 3, "\x00"}, asked{7, "", 0, "\x00\x00\x00"})
	gone := [2]string{imaged(13, 0, "1234"), imaged(12, 0, "1234", "k0", "k1", "k2", "k3")}
	flashIs(t, d, gone[0], gone[1])
	ask(t, d, asked{1, "1234", 5, ""}, asked{1, "0", 5, ""}, asked{1, "", 4, ""}, asked{1, "123456789", 4, ""})
	ask(t, d, asked{2, "", 0, ""}, asked{3, "\x00k", 2, ""}, asked{4, "\x00m", 2, ""}, asked{5, "\x00" + eightZeroes, 2, ""}, asked{6, "1", 2, ""}, asked{7, "", 0, "\x00\x00\x00"})
	flashIs(t, d, gone[0], gone[1])
	d = opened(t, gone[0]+gone[1])
	ask(t, d, asked{7, "", 0, "\x00\x00\x00"}, asked{1, "1234", 5, ""})
}

func TestWithoutKeysTheLastTryIsWrittenTwiceToo(t *testing.T) {
	d := opened(t, imaged(9, 1, "1")+noImage)
	ask(t, d, asked{1, "0", 3, "\x00"})
	flashIs(t, d, imaged(11, 0, "1"), imaged(10, 0, "1"))
}

func TestLock(t *testing.T) {
	d := newDevice(t, "1")
	ask(t, d, asked{2, "", 0, ""}, asked{2, "x", 4, ""}, asked{7, "", 0, "\x00\x05\x00"})
	flashIs(t, d, imaged(1, 5, "1"), noImage)
	ask(t, d, asked{1, "1", 0, ""}, asked{2, "x", 4, ""}, asked{2, strings.Repeat("\x00", 48), 4, ""}, asked{7, "", 0, "\x01\x05\x00"})
	ask(t, d, asked{2, "", 0, ""}, asked{7, "", 0, "\x00\x05\x00"}, asked{4, "\x00", 2, ""})
	flashIs(t, d, imaged(3, 5, "1"), imaged(2, 4, "1"))
}

func TestSet(t *testing.T) {
	d := unlockedDevice(t, "1")
	twenty := strings.Repeat("k", 20)
	ask(t, d, asked{3, "\x00" + twenty, 0, ""})
	flashIs(t, d, imaged(3, 5, "1"), imaged(4, 5, "1", twenty))
	ask(t, d, asked{3, "\x03\x00", 0, ""}, asked{7, "", 0, "\x01\x05\x09"})
	flashIs(t, d, imaged(5, 5, "1", twenty, "", "", "\x00"), imaged(4, 5, "1", twenty))
	ask(t, d, asked{3, "\x00s", 0, ""}) // nothing of the longer key is left behind the shorter one
	flashIs(t, d, imaged(5, 5, "1", twenty, "", "", "\x00"), imaged(6, 5, "1", "s", "", "", "\x00"))
	ask(t, d, asked{3, "\x03", 0, ""}, asked{7, "", 0, "\x01\x05\x01"})
	flashIs(t, d, imaged(7, 5, "1", "s"), imaged(6, 5, "1", "s", "", "", "\x00"))
	ask(t, d, asked{3, "\x02", 0, ""}, asked{3, "\x00s", 0, ""}) // what changes nothing is written too
	flashIs(t, d, imaged(9, 5, "1", "s"), imaged(8, 5, "1", "s"))
	ask(t, d, asked{3, "\x01b", 0, ""}, asked{3, "\x02c", 0, ""}, asked{7, "", 0, "\x01\x05\x07"})
	flashIs(t, d, imaged(11, 5, "1", "s", "b", "c"), imaged(10, 5, "1", "s", "b"))
}

func TestSetRefuses(t *testing.T) {
	d := unlockedDevice(t, "1")
	long := strings.Repeat("k", 21)
	wrong := []string{"", "\x04", "\x04k", "\x05k", "\x80k", "\xffk", "0k", "\x00" + long, "\x03" + long, "\x01" + strings.Repeat("k", 47)}
	for _, payload := range wrong {
		ask(t, d, asked{3, payload, 4, ""})
	}
	ask(t, d, asked{7, "", 0, "\x01\x05\x00"}, asked{2, "", 0, ""})
	for _, payload := range append(wrong, "\x00k", "\x00") {
		ask(t, d, asked{3, payload, 2, ""})
	}
	flashIs(t, d, imaged(3, 5, "1"), imaged(2, 4, "1"))
}

func TestSealOfASlot(t *testing.T) {
	d := unlockedDevice(t, "1")
	for slot, key := range []string{"k", "\x00", exampleKey, mixedText(19)} {
		at := string([]byte{byte(slot)})
		ask(t, d, asked{3, at + key, 0, ""})
		for _, message := range []string{"", "m", "\xa5\x00\x07\x08", mixedText(46), mixedText(47)} {
			seal := wantedSeal(key, message)
			ask(t, d, asked{4, at + message, 0, string(seal[:])})
		}
	}
}

func TestSealRefuses(t *testing.T) {
	d := unlockedDevice(t, "1")
	ask(t, d, asked{3, "\x01k", 0, ""})
	for _, payload := range []string{"", "\x04", "\x04m", "\xffm", "1m"} {
		ask(t, d, asked{4, payload, 4, ""})
	}
	for _, payload := range []string{"\x00", "\x00m", "\x02m", "\x03m"} {
		ask(t, d, asked{4, payload, 5, ""})
	}
	ask(t, d, asked{3, "\x01", 0, ""}, asked{4, "\x01m", 5, ""}, asked{3, "\x01k", 0, ""}, asked{2, "", 0, ""})
	for _, payload := range []string{"", "\x04m", "\x00m", "\x01m"} {
		ask(t, d, asked{4, payload, 2, ""})
	}
	flashIs(t, d, imaged(5, 5, "1"), imaged(6, 5, "1", "", "k"))
}

func TestCodeOfASlot(t *testing.T) {
	d := unlockedDevice(t, "1")
	ask(t, d, asked{3, "\x02" + exampleKey, 0, ""}, asked{3, "\x03k", 0, ""})
	for _, number := range []int{0, 1, 9, 21, 255, 256, 1953, 187300, 1 << 32, 1 << 62, math.MaxInt} {
		eight := string(binary.BigEndian.AppendUint64(nil, uint64(number)))
		ask(t, d, asked{5, "\x02" + eight, 0, wantedCode(exampleKey, number)}, asked{5, "\x03" + eight, 0, wantedCode("k", number)})
	}
	ask(t, d, asked{5, "\x02" + eightZeroes, 0, "875740"}, asked{5, "\x02" + eightZeroes[1:] + "\x01", 0, "247374"})
}

// Of numbers above those which an int holds; wantedCode's number has the same 8 bytes.
func TestCodeOfNumbersAboveAnInt(t *testing.T) {
	d := unlockedDevice(t, "1")
	ask(t, d, asked{3, "\x00" + exampleKey, 0, ""})
	for _, number := range []int{-1, -2, math.MinInt, math.MinInt + 1} {
		eight := string(binary.BigEndian.AppendUint64(nil, uint64(number)))
		ask(t, d, asked{5, "\x00" + eight, 0, wantedCode(exampleKey, number)})
	}
}

func TestCodeRefuses(t *testing.T) {
	d := unlockedDevice(t, "1")
	ask(t, d, asked{3, "\x01k", 0, ""})
	wrong := []string{"", "\x00", "\x01", "\x04" + eightZeroes, "\xff" + eightZeroes, "\x01" + eightZeroes[:7], "\x00" + eightZeroes[:7], "\x01" + eightZeroes + "\x00", "\x00" + eightZeroes + "\x00", "\x01" + strings.Repeat("\x00", 47)}
	for _, payload := range wrong {
		ask(t, d, asked{5, payload, 4, ""})
	}
	for _, slot := range []string{"\x00", "\x02", "\x03"} {
		ask(t, d, asked{5, slot + eightZeroes, 5, ""})
	}
	ask(t, d, asked{2, "", 0, ""})
	for _, payload := range append(wrong, "\x00"+eightZeroes, "\x01"+eightZeroes) {
		ask(t, d, asked{5, payload, 2, ""})
	}
	flashIs(t, d, imaged(3, 5, "1"), imaged(4, 5, "1", "", "k"))
}

func TestPin(t *testing.T) {
	d := unlockedDevice(t, "12345678")
	ask(t, d, asked{3, "\x00k", 0, ""}, asked{6, "9", 0, ""}, asked{7, "", 0, "\x01\x05\x01"})
	flashIs(t, d, imaged(5, 5, "9", "k"), imaged(4, 5, "12345678", "k"))
	ask(t, d, asked{1, "12345678", 3, "\x04"}, asked{1, "9", 0, ""}, asked{6, "\x00\x01\x02\x03\x04\x05\x06\xff", 0, ""})
	flashIs(t, d, imaged(9, 5, "\x00\x01\x02\x03\x04\x05\x06\xff", "k"), imaged(8, 5, "9", "k"))
	ask(t, d, asked{2, "", 0, ""}, asked{1, "\x00\x01\x02\x03\x04\x05\x06\xff", 0, ""})
}

func TestPinRefuses(t *testing.T) {
	d := newDevice(t, "1")
	wrong := []string{"", "123456789", strings.Repeat("1", 48)}
	for _, payload := range append(wrong, "2", "12345678") {
		ask(t, d, asked{6, payload, 2, ""})
	}
	ask(t, d, asked{1, "1", 0, ""})
	for _, payload := range wrong {
		ask(t, d, asked{6, payload, 4, ""})
	}
	ask(t, d, asked{7, "", 0, "\x01\x05\x00"})
	flashIs(t, d, imaged(3, 5, "1"), imaged(2, 4, "1"))
}

func TestTell(t *testing.T) {
	d := newDevice(t, "1")
	for _, payload := range []string{"x", "\x00", strings.Repeat("\x00", 48)} {
		ask(t, d, asked{7, payload, 4, ""})
	}
	for bits := range 16 {
		var keys []string
		for slot := range 4 {
			keys = append(keys, strings.Repeat("k", bits>>slot&1))
		}
		d := opened(t, imaged(1, 2, "1", keys...)+noImage)
		ask(t, d, asked{7, "", 0, "\x00\x02" + string([]byte{byte(bits)})}, asked{1, "1", 0, ""}, asked{7, "", 0, "\x01\x05" + string([]byte{byte(bits)})}, asked{7, "x", 4, ""})
	}
	flashIs(t, d, imaged(1, 5, "1"), noImage)
}

func TestOtherCommands(t *testing.T) {
	for _, d := range []*Device{newDevice(t, "1"), unlockedDevice(t, "1")} {
		before := d.Flash()
		for kind := range 256 {
			if kind >= 1 && kind <= 7 {
				continue
			}
			for _, payload := range []string{"", "x", "\x00k", strings.Repeat("\xa5", 48)} {
				ask(t, d, asked{kind, payload, 6, ""})
			}
		}
		flashIs(t, d, before, "")
	}
}

func TestAWornDevice(t *testing.T) {
	flash := [2]string{imaged(greatest, 3, "1", "k"), imaged(greatest-1, 4, "1", "k")}
	d := opened(t, flash[0]+flash[1])
	ask(t, d, asked{1, "1", 7, ""}, asked{1, "0", 7, ""}, asked{1, "", 4, ""}, asked{1, "123456789", 4, ""}, asked{7, "", 0, "\x00\x03\x01"}, asked{2, "", 0, ""}, asked{3, "\x00k", 2, ""}, asked{6, "1", 2, ""})
	flashIs(t, d, flash[0], flash[1])
	d = opened(t, imaged(greatest, 0, "1", "k")+noImage)
	ask(t, d, asked{1, "", 4, ""}, asked{1, "1", 5, ""}, asked{1, "0", 5, ""}, asked{7, "", 0, "\x00\x00\x01"})
}

func TestADeviceThatIsWornByTheTry(t *testing.T) {
	last := imaged(greatest-1, 3, "1", "k")
	d := opened(t, last+noImage)
	ask(t, d, asked{1, "1", 7, ""}, asked{7, "", 0, "\x00\x02\x01"}, asked{1, "1", 7, ""}, asked{4, "\x00m", 2, ""})
	flashIs(t, d, last, imaged(greatest, 2, "1", "k"))
	d = opened(t, noImage+last)
	ask(t, d, asked{1, "0", 3, "\x02"}, asked{7, "", 0, "\x00\x02\x01"}, asked{1, "0", 7, ""})
	flashIs(t, d, imaged(greatest, 2, "1", "k"), last)
}

func TestADeviceThatIsWornByTheLastTry(t *testing.T) {
	last := imaged(greatest-1, 1, "1", "k")
	d := opened(t, last+noImage)
	ask(t, d, asked{1, "0", 3, "\x00"}, asked{7, "", 0, "\x00\x00\x01"}, asked{1, "1", 5, ""})
	flashIs(t, d, last, imaged(greatest, 0, "1", "k"))
	d = opened(t, last+noImage)
	ask(t, d, asked{1, "1", 7, ""}, asked{7, "", 0, "\x00\x00\x01"}, asked{1, "1", 5, ""})
	flashIs(t, d, last, imaged(greatest, 0, "1", "k"))
	d = opened(t, imaged(greatest-2, 1, "1", "k")+noImage)
	ask(t, d, asked{1, "0", 3, "\x00"}, asked{7, "", 0, "\x00\x00\x00"}, asked{1, "1", 5, ""})
	flashIs(t, d, imaged(greatest, 0, "1"), imaged(greatest-1, 0, "1", "k"))
}

func TestAnUnlockedDeviceThatIsWorn(t *testing.T) {
	d := opened(t, imaged(greatest-2, 3, "1", "k")+noImage)
	ask(t, d, asked{1, "1", 0, ""})
	flash := [2]string{imaged(greatest, 5, "1", "k"), imaged(greatest-1, 2, "1", "k")}
	flashIs(t, d, flash[0], flash[1])
	seal := wantedSeal("k", "m")
	ask(t, d, asked{3, "\x01k", 7, ""}, asked{3, "\x00", 7, ""}, asked{3, "\x04k", 4, ""}, asked{3, "", 4, ""}, asked{3, "\x00" + strings.Repeat("k", 21), 4, ""}, asked{6, "2", 7, ""}, asked{6, "", 4, ""}, asked{6, "123456789", 4, ""})
	ask(t, d, asked{4, "\x00m", 0, string(seal[:])}, asked{5, "\x00" + eightZeroes, 0, wantedCode("k", 0)}, asked{4, "\x01m", 5, ""})
	ask(t, d, asked{1, "1", 7, ""}, asked{1, "0", 7, ""}, asked{1, "", 4, ""}, asked{7, "", 0, "\x01\x05\x01"})
	flashIs(t, d, flash[0], flash[1])
	ask(t, d, asked{2, "", 0, ""}, asked{3, "\x01k", 2, ""}, asked{1, "1", 7, ""}, asked{7, "", 0, "\x00\x05\x01"})
}

func TestAnUnlockedDeviceThatIsWornByATry(t *testing.T) {
	for _, c := range []asked{{1, "1", 7, ""}, {1, "0", 3, "\x04"}} {
		d := opened(t, imaged(greatest-3, 3, "1", "k")+noImage)
		ask(t, d, asked{1, "1", 0, ""}, c, asked{7, "", 0, "\x00\x04\x01"}, asked{4, "\x00m", 2, ""})
		flashIs(t, d, imaged(greatest-1, 5, "1", "k"), imaged(greatest, 4, "1", "k"))
	}
}
