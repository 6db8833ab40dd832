package warden

import (
	"strings"
	"testing"
)

var (
	tell = framed(7, "")
	told = framed(0, "\x00\x05\x00")
	bad  = "\xa5\x00\x01\x02"
)

// feeds: the bytes are answered so in one piece, byte by byte, and in two pieces cut anywhere.
func feeds(t *testing.T, bytes, want string) {
	t.Helper()
	if s := newDevice(t, "1").Feed(bytes); s != want {
		t.Errorf("P5: Feed(%q) = %q, want %q", bytes, s, want)
	}
	all, d := "", newDevice(t, "1")
	for i := range len(bytes) {
		all += d.Feed(bytes[i : i+1])
	}
	if all != want {
		t.Errorf("P5: Feed(%q), byte by byte, = %q, want %q", bytes, all, want)
	}
	for i := range len(bytes) {
		d := newDevice(t, "1")
		if s := d.Feed(bytes[:i]) + d.Feed("") + d.Feed(bytes[i:]); s != want {
			t.Errorf("P5: Feed(%q), cut at %d, = %q, want %q", bytes, i, s, want)
		}
	}
}

func TestFramesOfTheExamples(t *testing.T) {
	d := newDevice(t, "1234")
	for _, c := range [][2]string{
		{"\xa5\x00\x07\x08", "\xa5\x03\x00\x00\x05\x00\x09"},
		{"\xa5\x04\x01\x31\x32\x33\x34\xd0", "\xa5\x00\x00\x01"},
	} {
		if s := d.Feed(c[0]); s != c[1] {
			t.Errorf("P5: Feed(%q) = %q, want %q", c[0], s, c[1])
		}
	}
	flashIs(t, d, imaged(3, 5, "1234"), imaged(2, 4, "1234"))
	if s := d.Feed(framed(1, "0")); s != "\xa5\x01\x03\x04\x09" {
		t.Errorf("P5: a wrong PIN: %q", s)
	}
}

func TestFramesInAnyPieces(t *testing.T) {
	feeds(t, "", "")
	feeds(t, tell, told)
	feeds(t, tell+tell, told+told)
	feeds(t, tell+framed(1, "1")+tell+framed(2, "")+tell, told+framed(0, "")+framed(0, "\x01\x05\x00")+framed(0, "")+told)
	feeds(t, tell+tell[:3], told)
}

func TestBytesAheadOfABeginningArePassedOver(t *testing.T) {
	feeds(t, "xyz", "")
	feeds(t, "\x00\x07\x08", "")
	feeds(t, "xyz"+tell, told)
	feeds(t, tell+"\xa4\xa6\x00\xff"+tell+"\xa7"+tell, told+told+told)
}

func TestFramesWithTooGreatALength(t *testing.T) {
	feeds(t, "\xa5\x31", bad)
	feeds(t, "\xa5\xff"+tell, bad+told)
	feeds(t, "\xa5"+tell, bad+told)
	feeds(t, "\xa5\xa5\xa5\xa5"+tell, bad+bad+bad+bad+told)
	for _, length := range []int{49, 50, 100, 128, 164, 200, 255} {
		feeds(t, framed(4, strings.Repeat("m", length)), bad)
	}
}

func TestAFrameOfTheGreatestLength(t *testing.T) {
	for length := range 49 {
		feeds(t, framed(4, strings.Repeat("m", length))+tell, framed(2, "")+told)
		feeds(t, framed(8, strings.Repeat("\xa5", length))+tell, framed(6, "")+told)
	}
}

func TestFramesWithAWrongCheck(t *testing.T) {
	for more := 1; more < 256; more++ {
		check := byte(0x08 + more)
		if check == 0xa5 { // which is a beginning
			continue
		}
		feeds(t, "\xa5\x00\x07"+string([]byte{check})+tell, bad+told)
	}
	long := framed(4, strings.Repeat("m", 48))
	feeds(t, long[:51]+string([]byte{long[51] + 1})+tell, bad+told)
}

func TestAFrameIsNotBadBeforeItsCheckIsThere(t *testing.T) {
	d := newDevice(t, "1")
	for _, c := range [][2]string{{"\xa5", ""}, {"\x00", ""}, {"\x07", ""}, {"\x09", bad}, {"\xa5\x02\x07xy", ""}, {"z", bad}, {tell, told}} {
		if s := d.Feed(c[0]); s != c[1] {
			t.Errorf("P5: Feed(%q) = %q, want %q", c[0], s, c[1])
		}
	}
}

func TestABadFrameMayHoldARightOne(t *testing.T) {
	feeds(t, "\xa5\x00\x07"+tell, bad+told)
	feeds(t, "\xa5\x01"+tell, bad+told)
	feeds(t, "\xa5\x02"+tell+"x", bad+told)
	feeds(t, "\xa5\x08\x04"+tell+tell+"x", bad+told+told)
	feeds(t, "\xa5\x05\x04"+tell+"\xa5\x00"+"\x07\x08", bad+told+told)
	feeds(t, "\xa5\x04\x04\xa5\x01"+tell, bad+bad+told)
}

func TestARightFrameMayHoldBeginnings(t *testing.T) {
	feeds(t, framed(8, tell)+tell, framed(6, "")+told)
	feeds(t, framed(0xa5, "")+tell, framed(6, "")+told)
	feeds(t, framed(0xa5, "\xa5\xa5")+tell, framed(6, "")+told)
	feeds(t, framed(8, "\xa5\x30")+tell, framed(6, "")+told)
	feeds(t, "\xa5\x00\xa4\xa5"+tell, framed(6, "")+told) // its check is A5
}

func TestManyBeginningsWithinABadFrame(t *testing.T) {
	d := newDevice(t, "1")
	if s := d.Feed("\xa5\x30" + strings.Repeat("\xa5", 49)); s != "" {
		t.Errorf("P5: a frame without its check is answered %q", s)
	}
	// The last A5 has a length 0, and waits for its command.
	if s := d.Feed("\x00"); s != strings.Repeat(bad, 49) {
		t.Errorf("P5: of fifty beginnings %q", s)
	}
	if s := d.Feed("\x07\x08"); s != told {
		t.Errorf("P5: of the last beginning %q", s)
	}
}

func TestWhatWaitsIsShort(t *testing.T) {
	d := newDevice(t, "1")
	d.Feed(strings.Repeat("\xa5\x30", 1000))
	if len(d.come) > 51 {
		t.Errorf("%d bytes wait for the end of a frame", len(d.come))
	}
	d.Feed(strings.Repeat("x", 1000))
	if d.come != "" {
		t.Errorf("%q waits, and is no beginning", d.come)
	}
}
