package warden

import (
	"math"
	"runtime"
	"strings"
	"testing"
)

var otherHalf = strings.Repeat("\xff", 100) // so that each byte that is written is seen

func cut(t *testing.T, d *Device, n int, want Errno) {
	t.Helper()
	if e := d.Cut(n); e != want {
		t.Errorf("P6: Cut(%d) = %d, want %d", n, e, want)
	}
}

func boot(t *testing.T, d *Device) {
	t.Helper()
	flash := d.Flash()
	if e := d.Boot(); e != OK {
		t.Errorf("P6: Boot = %d", e)
	}
	flashIs(t, d, flash, "")
}

func answers(t *testing.T, d *Device, bytes, want string) {
	t.Helper()
	if s := d.Feed(bytes); s != want {
		t.Errorf("P5, P6: Feed(%q) = %q, want %q", bytes, s, want)
	}
}

// isWithoutPower: nothing is answered, nothing changes, nothing waits.
func isWithoutPower(t *testing.T, d *Device) {
	t.Helper()
	flash := d.Flash()
	for _, bytes := range []string{"", "x", tell, tell[:2], tell[2:], "\xa5\xff", framed(1, "1"), framed(1, "0"), framed(2, ""), framed(3, "\x00k"), framed(4, "\x00m"), framed(5, "\x00"+eightZeroes), framed(6, "2"), framed(9, "")} {
		answers(t, d, bytes, "")
	}
	flashIs(t, d, flash, "")
	if d.come != "" {
		t.Errorf("P6: %q is not passed over", d.come)
	}
}

// writing is a command that writes: its answer, and what is kept behind each write.
type writing struct {
	name     string
	before   kept
	unlocked bool
	command  string
	answer   string
	writes   []kept
}

func writings() []writing {
	keys := [4]string{mixedText(20), "", "k2", ""}
	set, unset := keys, keys
	set[3], unset[0] = mixedText(17), ""
	var none [4]string
	of := func(number uint32, tries int, pin string, keys [4]string) kept { return kept{number, tries, pin, keys} }
	return []writing{
		{"the PIN", of(7, 3, "1234", keys), false, framed(1, "1234"), framed(0, ""), []kept{of(8, 2, "1234", keys), of(9, 5, "1234", keys)}},
		{"the PIN, the last try", of(7, 1, "1234", keys), false, framed(1, "1234"), framed(0, ""), []kept{of(8, 0, "1234", keys), of(9, 5, "1234", keys)}},
		{"the PIN, unlocked", of(7, 5, "1234", keys), true, framed(1, "1234"), framed(0, ""), []kept{of(8, 4, "1234", keys), of(9, 5, "1234", keys)}},
		{"the PIN, worn by the try", of(greatest-1, 3, "1234", keys), false, framed(1, "1234"), framed(7, ""), []kept{of(greatest, 2, "1234", keys)}},
		{"a wrong PIN", of(7, 3, "1234", keys), false, framed(1, "0"), framed(3, "\x02"), []kept{of(8, 2, "1234", keys)}},
		{"a wrong PIN, unlocked", of(7, 5, "1234", keys), true, framed(1, "0"), framed(3, "\x04"), []kept{of(8, 4, "1234", keys)}},
		{"a wrong PIN, the last try", of(7, 1, "1234", keys), false, framed(1, "0"), framed(3, "\x00"), []kept{of(8, 0, "1234", keys), of(9, 0, "1234", none)}},
		{"a wrong PIN, worn by the last try", of(greatest-1, 1, "1234", keys), false, framed(1, "0"), framed(3, "\x00"), []kept{of(greatest, 0, "1234", keys)}},
		{"set", of(7, 5, "1234", keys), true, framed(3, "\x03"+set[3]), framed(0, ""), []kept{of(8, 5, "1234", set)}},
		{"set of no key", of(7, 5, "1234", keys), true, framed(3, "\x00"), framed(0, ""), []kept{of(8, 5, "1234", unset)}},
		{"pin", of(7, 5, "1234", keys), true, framed(6, "87654321"), framed(0, ""), []kept{of(8, 5, "87654321", keys)}},
	}
}

// readied is a device that keeps what is said in this half. For one that is
// unlocked, the image it is opened with is two writes older.
func (w writing) readied(t *testing.T, half int) *Device {
	t.Helper()
	from := w.before
	if w.unlocked {
		from.number -= 2
	}
	halves := [2]string{otherHalf, otherHalf}
	halves[half] = from.image()
	d := opened(t, halves[0]+halves[1])
	if w.unlocked {
		ask(t, d, asked{1, from.pin, 0, ""})
	}
	return d
}

func (k kept) told(unlocked bool) string {
	return framed(0, (&model{kept: k, unlocked: unlocked}).told())
}

// flashBehind is what a flash has when so many bytes of the command's have been written.
func (w writing) flashBehind(bytes int, flash string, half int) string {
	halves := [2]string{flash[:100], flash[100:]}
	for _, k := range w.writes {
		if bytes < 101 {
			halves[1-half] = partly(halves[1-half], k.image(), bytes)
			break
		}
		halves[1-half] = k.image()
		half, bytes = 1-half, bytes-101
	}
	return halves[0] + halves[1]
}

// keptBehind is what is kept then.
func (w writing) keptBehind(bytes int) kept {
	return append([]kept{w.before}, w.writes...)[bytes/101]
}

// keeps: the device is locked, and has just this, of which the PIN and the
// keys are seen by unlocking it.
func keeps(t *testing.T, d *Device, k kept) {
	t.Helper()
	answers(t, d, tell, k.told(false))
	ask(t, d, asked{4, "\x00m", 2, ""}, asked{3, "\x00k", 2, ""})
	if k.tries == 0 || k.number >= greatest-1 {
		return
	}
	ask(t, d, asked{1, k.pin, 0, ""})
	for slot, key := range k.keys {
		want := asked{4, string([]byte{byte(slot)}) + "m", 5, ""}
		if key != "" {
			seal := wantedSeal(key, "m")
			want.status, want.told = 0, string(seal[:])
		}
		ask(t, d, want)
	}
}

func TestThePowerGoesAtEachByteOfEachWrite(t *testing.T) {
	for _, w := range writings() {
		for half := range 2 {
			for bytes := range 101 * len(w.writes) {
				w.goesBehind(t, half, bytes)
				if t.Failed() {
					t.Fatalf("P6, P7: %s, from half %d, cut behind %d bytes", w.name, half, bytes)
				}
			}
		}
	}
}

func (w writing) goesBehind(t *testing.T, half, bytes int) {
	t.Helper()
	d := w.readied(t, half)
	want := w.flashBehind(bytes, d.Flash(), half)
	cut(t, d, bytes, OK)
	answers(t, d, tell+w.command+tell+w.command+"\xa5\xff", w.before.told(w.unlocked))
	flashIs(t, d, want, "")
	isWithoutPower(t, d)
	keeps(t, opened(t, d.Flash()), w.keptBehind(bytes))
	boot(t, d)
	keeps(t, d, w.keptBehind(bytes))
}

func TestThePowerThatLastsJustForACommand(t *testing.T) {
	for _, w := range writings() {
		for half := range 2 {
			d := w.readied(t, half)
			bytes := 101 * len(w.writes)
			want := w.flashBehind(bytes, d.Flash(), half)
			cut(t, d, bytes, OK)
			answers(t, d, w.command, w.answer)
			flashIs(t, d, want, "")
			last := w.keptBehind(bytes)
			answers(t, d, tell, last.told(w.answer == framed(0, "")))
			if last.tries > 0 && last.number < greatest {
				answers(t, d, framed(1, "x"), "")
				isWithoutPower(t, d)
				flashIs(t, d, want, "")
			}
			boot(t, d)
			keeps(t, d, last)
		}
	}
}

func TestThePowerOfTheExamples(t *testing.T) {
	d := newDevice(t, "1234")
	ask(t, d, asked{1, "1234", 0, ""}, asked{1, "0", 3, "\x04"})
	cut(t, d, 50, OK)
	answers(t, d, framed(1, "1234"), "")
	boot(t, d)
	ask(t, d, asked{7, "", 0, "\x00\x04\x00"})
	cut(t, d, 101, OK)
	ask(t, d, asked{1, "0", 3, "\x03"})
	flash := d.Flash()
	answers(t, d, framed(1, "0"), "")
	flashIs(t, d, flash, "")
}

func TestCutOfNumbersBelowNothing(t *testing.T) {
	for _, n := range []int{-1, -2, -101, math.MinInt + 1, math.MinInt} {
		d := unlockedDevice(t, "1")
		answers(t, d, tell[:2], "")
		cut(t, d, n, ErrArg)
		answers(t, d, tell[2:], framed(0, "\x01\x05\x00"))
		ask(t, d, asked{3, "\x00k", 0, ""}, asked{3, "\x01k", 0, ""})
		cut(t, d, 101, OK)
		cut(t, d, n, ErrArg)
		ask(t, d, asked{3, "\x02k", 0, ""})
		answers(t, d, framed(3, "\x03k"), "")
		cut(t, d, n, ErrArg)
		isWithoutPower(t, d)
		boot(t, d)
		ask(t, d, asked{7, "", 0, "\x00\x05\x07"})
		cut(t, d, n, ErrArg)
		ask(t, d, asked{1, "1", 0, ""})
	}
}

// What writes nothing is answered for as long as nothing is written.
func TestCutOfNothing(t *testing.T) {
	d := unlockedDevice(t, "1")
	ask(t, d, asked{3, "\x00k", 0, ""})
	flash := d.Flash()
	cut(t, d, 0, OK)
	seal := wantedSeal("k", "m")
	ask(t, d, asked{7, "", 0, "\x01\x05\x01"}, asked{4, "\x00m", 0, string(seal[:])}, asked{5, "\x00" + eightZeroes, 0, wantedCode("k", 0)}, asked{1, "", 4, ""}, asked{3, "\x04k", 4, ""}, asked{6, "123456789", 4, ""}, asked{4, "\x01m", 5, ""}, asked{8, "", 6, ""})
	answers(t, d, "\xa5\xff", bad)
	ask(t, d, asked{2, "", 0, ""}, asked{3, "\x00k", 2, ""}, asked{7, "", 0, "\x00\x05\x01"})
	answers(t, d, framed(1, "1"), "")
	isWithoutPower(t, d)
	flashIs(t, d, flash, "")
}

func TestCutOfNothingAndADeviceThatWritesNothingAnyMore(t *testing.T) {
	for _, flash := range []string{imaged(greatest, 3, "1") + noImage, imaged(1, 0, "1") + noImage} {
		d := opened(t, flash)
		s := d.Feed(framed(1, "1"))
		cut(t, d, 0, OK)
		answers(t, d, framed(1, "1")+framed(1, "0")+tell[:3], s+s)
		flashIs(t, d, flash, "")
	}
}

func TestCutOfGreatNumbers(t *testing.T) {
	for _, n := range []int{10100, 1 << 31, 1<<32 + 1, math.MaxInt - 1, math.MaxInt} {
		d := unlockedDevice(t, "1")
		cut(t, d, n, OK)
		for range 100 {
			ask(t, d, asked{3, "\x00k", 0, ""})
		}
		ask(t, d, asked{7, "", 0, "\x01\x05\x01"})
	}
}

func TestASecondCut(t *testing.T) {
	for _, first := range []int{0, 1, 100, 101, 202, math.MaxInt} {
		for _, second := range []int{0, 1, 100, 101, 150, 202, 303} {
			d := unlockedDevice(t, "1")
			cut(t, d, first, OK)
			cut(t, d, second, OK)
			answers(t, d, strings.Repeat(framed(3, "\x00k"), 4), strings.Repeat(framed(0, ""), second/101))
			isWithoutPower(t, d)
		}
	}
}

// The second number is of bytes behind the second Cut.
func TestASecondCutBehindSomeBytes(t *testing.T) {
	d := unlockedDevice(t, "1")
	cut(t, d, 150, OK)
	ask(t, d, asked{3, "\x00k", 0, ""})
	cut(t, d, 150, OK)
	ask(t, d, asked{3, "\x01k", 0, ""})
	answers(t, d, framed(3, "\x02k"), "")
	flashIs(t, d, imaged(5, 5, "1", "k", "k"), "\x00"+imaged(6, 5, "1", "k", "k", "k")[1:49]+imaged(4, 5, "1", "k")[49:])
}

func TestCutChangesNothingElse(t *testing.T) {
	d := unlockedDevice(t, "1")
	answers(t, d, tell[:2], "")
	flash := d.Flash()
	cut(t, d, 5, OK)
	flashIs(t, d, flash, "")
	answers(t, d, tell[2:]+tell, framed(0, "\x01\x05\x00")+framed(0, "\x01\x05\x00"))
}

func TestCutWithoutPower(t *testing.T) {
	for _, n := range []int{0, 1, 101, math.MaxInt} {
		d := unlockedDevice(t, "1")
		cut(t, d, 7, OK)
		answers(t, d, framed(6, "2"), "")
		cut(t, d, n, OK)
		isWithoutPower(t, d)
		boot(t, d)
		ask(t, d, asked{1, "1", 0, ""}, asked{3, "\x00k", 0, ""}, asked{6, "2", 0, ""}, asked{7, "", 0, "\x01\x05\x01"})
	}
}

func TestFramesAheadOfTheEndAndBehindIt(t *testing.T) {
	d := unlockedDevice(t, "1")
	cut(t, d, 201, OK)
	answers(t, d, tell+"x\xa5\xff"+framed(3, "\x00k")+tell+framed(9, "")+framed(6, "2")+tell+framed(3, "\x01k")+"\xa5\xff"+tell[:2],
		framed(0, "\x01\x05\x00")+bad+framed(0, "")+framed(0, "\x01\x05\x01")+framed(6, ""))
	answers(t, d, tell[2:]+tell, "")
	boot(t, d)
	answers(t, d, tell[2:], "")
	ask(t, d, asked{7, "", 0, "\x00\x05\x01"}, asked{1, "1", 0, ""})
}

// The frame in whose middle the power goes comes in pieces.
func TestThePowerGoesInAFrameOfPieces(t *testing.T) {
	d := unlockedDevice(t, "1")
	cut(t, d, 30, OK)
	command := framed(3, "\x00k")
	answers(t, d, tell+command[:3], framed(0, "\x01\x05\x00"))
	answers(t, d, command[3:]+tell, "")
	boot(t, d)
	answers(t, d, command[3:]+tell, framed(0, "\x00\x05\x00"))
}

func TestWhatComesWithoutPowerIsPassedOver(t *testing.T) {
	for n := range len(tell) {
		d := newDevice(t, "1")
		cut(t, d, 0, OK)
		answers(t, d, framed(1, "1")+tell[:n], "")
		answers(t, d, tell[:n], "")
		boot(t, d)
		want := ""
		if n == 0 {
			want = told
		}
		answers(t, d, tell[n:], want)
		if d.come != "" {
			t.Errorf("P6: %q has come", d.come)
		}
	}
}

func TestBootWithPower(t *testing.T) {
	d := unlockedDevice(t, "1")
	ask(t, d, asked{3, "\x02k", 0, ""})
	answers(t, d, tell[:3], "")
	for _, n := range []int{0, 101, 150} {
		cut(t, d, n, OK)
		boot(t, d)
		answers(t, d, tell[3:], "")
		ask(t, d, asked{7, "", 0, "\x00\x05\x04"}, asked{4, "\x02m", 2, ""}, asked{1, "1", 0, ""}, asked{7, "", 0, "\x01\x05\x04"})
		answers(t, d, tell[:3], "")
	}
	boot(t, d)
	boot(t, d)
	ask(t, d, asked{7, "", 0, "\x00\x05\x04"})
}

func TestBootOfANewDevice(t *testing.T) {
	d := newDevice(t, "1")
	boot(t, d)
	flashIs(t, d, imaged(1, 5, "1"), noImage)
	ask(t, d, asked{7, "", 0, "\x00\x05\x00"}, asked{1, "1", 0, ""})
}

// A device that has lost its power has it again by Boot, for good.
func TestBootGivesThePowerBack(t *testing.T) {
	d := newDevice(t, "1")
	for range 3 {
		cut(t, d, 0, OK)
		answers(t, d, framed(1, "1"), "")
		boot(t, d)
		for range 10 {
			ask(t, d, asked{1, "1", 0, ""}, asked{3, "\x00k", 0, ""})
		}
	}
}

func TestOpenIsAsIfBooted(t *testing.T) {
	d := unlockedDevice(t, "1")
	cut(t, d, 1000, OK)
	answers(t, d, tell[:2], "")
	other := opened(t, d.Flash())
	answers(t, other, tell[2:], "")
	ask(t, other, asked{7, "", 0, "\x00\x05\x00"}, asked{1, "1", 0, ""})
	for range 20 {
		ask(t, other, asked{3, "\x00k", 0, ""})
	}
}

// P2: what one device does without power, another does not see.
func TestTwoDevicesOneWithoutPower(t *testing.T) {
	a, b := newDevice(t, "1"), newDevice(t, "1")
	cut(t, a, 50, OK)
	ask(t, b, asked{1, "1", 0, ""})
	answers(t, a, framed(1, "1"), "")
	flash := a.Flash()
	ask(t, b, asked{3, "\x00k", 0, ""}, asked{1, "0", 3, "\x04"})
	isWithoutPower(t, a)
	cut(t, b, 0, OK)
	boot(t, a)
	answers(t, b, framed(1, "1"), "")
	ask(t, a, asked{7, "", 0, "\x00\x05\x00"})
	flashIs(t, a, flash, "")
	boot(t, b)
	ask(t, a, asked{1, "1", 0, ""})
	ask(t, b, asked{7, "", 0, "\x00\x04\x01"})
	flashIs(t, a, imaged(3, 5, "1"), imaged(2, 4, "1"))
	flashIs(t, b, imaged(5, 4, "1", "k"), imaged(4, 5, "1", "k"))
}

// The copy that a command works on holds nothing behind it, however it ends.
func TestTheCopyIsWiped(t *testing.T) {
	for _, w := range writings() {
		for _, command := range []string{w.command, tell, framed(2, ""), framed(3, "\x09"), framed(4, "\x00m"), framed(5, "\x00"+eightZeroes), framed(99, "")} {
			for _, bytes := range []int{0, 1, 50, 100, 101, 150, 202} {
				d := w.readied(t, 0)
				cut(t, d, bytes, OK)
				work := d.flash[0]
				d.obeyOn(&work, command[commandAt], command[payloadAt:len(command)-1])
				if work != (image{}) {
					t.Errorf("%s, command %q, cut behind %d bytes: the copy holds %q", w.name, command, bytes, work[:])
				}
			}
		}
	}
}

// Without a device the command runs into a panic that is not the power's.
func TestOtherPanicsAreNotRecovered(t *testing.T) {
	work := firstImage(pinField{1, '1'})
	defer func() {
		if _, fault := recover().(runtime.Error); !fault {
			t.Error("a fault ended a command as if the power had gone")
		}
		if work != (image{}) {
			t.Errorf("the copy holds %q", work[:])
		}
	}()
	var none *Device
	none.obeyOn(&work, 7, "")
}
