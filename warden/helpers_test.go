package warden

import (
	"encoding/binary"
	"strings"
	"testing"
)

const greatest = 0xffffffff

var noImage = strings.Repeat("\x00", 100)

// checked puts the check behind some bytes, by the document's words.
func checked(bytes string) string {
	sum := 1
	for _, b := range []byte(bytes) {
		sum += int(b)
	}
	return bytes + string([]byte{byte(sum % 256)})
}

// framed is a frame of a command, or an answer with a status.
func framed(kind int, payload string) string {
	return "\xa5" + checked(string([]byte{byte(len(payload)), byte(kind)})+payload)
}

// filled is a field of an image: a length, so many bytes, and bytes 0.
func filled(text string, room int) string {
	return string([]byte{byte(len(text))}) + text + strings.Repeat("\x00", room-len(text))
}

func imaged(number uint32, tries int, pin string, keys ...string) string {
	s := string(binary.BigEndian.AppendUint32(nil, number)) + string([]byte{byte(tries)}) + filled(pin, 8)
	for slot := range 4 {
		key := ""
		if slot < len(keys) {
			key = keys[slot]
		}
		s += filled(key, 20)
	}
	return "\xa7" + checked(s)
}

func newDevice(t *testing.T, pin string) *Device {
	t.Helper()
	d, e := New(pin)
	return made(t, d, e)
}

func opened(t *testing.T, flash string) *Device {
	t.Helper()
	d, e := Open(flash)
	return made(t, d, e)
}

func made(t *testing.T, d *Device, e Errno) *Device {
	t.Helper()
	if d == nil || e != OK {
		t.Fatalf("P4: no device was made: %v, %d", d, e)
	}
	return d
}

// asked is a command, and the answer that it should have.
type asked struct {
	kind    int
	payload string
	status  int
	told    string
}

func ask(t *testing.T, d *Device, all ...asked) {
	t.Helper()
	for i, a := range all {
		if s, want := d.Feed(framed(a.kind, a.payload)), framed(a.status, a.told); s != want {
			t.Errorf("P5: question %d: command %d with %q: %q, want %q", i, a.kind, a.payload, s, want)
		}
	}
}

func flashIs(t *testing.T, d *Device, first, second string) {
	t.Helper()
	if s := d.Flash(); s != first+second {
		t.Errorf("P4, P5: Flash = %q, want %q", s, first+second)
	}
}
