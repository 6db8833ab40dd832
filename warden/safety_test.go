package warden

import (
	"math/rand"
	"strings"
	"testing"
)

// Tests of P7: what people lean on, whenever the power goes.

// guesser tries wrong PINs at a device, and pulls the plug when it will.
type guesser struct {
	device *Device
	random *rand.Rand
	tried  int // wrong PINs that the device has looked at
}

// guess counts a PIN as tried if it is answered, or if what is kept shows a
// try less: the first write has ended then, and the device has gone on.
func (g *guesser) guess(t *testing.T) {
	t.Helper()
	before := numberKept(g.device)
	if g.random.Intn(3) > 0 {
		cut(t, g.device, g.random.Intn(250), OK)
	}
	s := g.device.Feed(framed(1, "wrong"))
	if s != "" && s != framed(5, "") || numberKept(g.device) != before {
		g.tried++
	}
	if g.random.Intn(2) == 0 || s == "" {
		boot(t, g.device)
	}
}

func numberKept(d *Device) uint32 {
	half, _ := d.flash.kept()
	return d.flash[half].number()
}

// P7: five at most, and then neither the PIN nor the keys are of use.
func TestNoMoreThanFiveWrongPins(t *testing.T) {
	r := rand.New(rand.NewSource(4))
	for range 400 {
		d := unlockedDevice(t, "right")
		ask(t, d, asked{3, "\x00k", 0, ""}, asked{3, "\x03kk", 0, ""})
		for range r.Intn(3) { // ahead of a right one, some are free
			g := guesser{d, r, 0}
			for g.tried < 4 {
				g.guess(t)
			}
			boot(t, d)
			ask(t, d, asked{1, "right", 0, ""})
		}
		g := guesser{d, r, 0}
		for range 60 {
			g.guess(t)
		}
		if g.tried != 5 {
			t.Fatalf("P7: %d wrong PINs were tried", g.tried)
		}
		boot(t, d)
		isOfNoUse(t, d)
		isOfNoUse(t, opened(t, d.Flash()))
	}
}

func isOfNoUse(t *testing.T, d *Device) {
	t.Helper()
	for range 2 {
		ask(t, d, asked{1, "right", 5, ""}, asked{1, "wrong", 5, ""}, asked{4, "\x00m", 2, ""}, asked{4, "\x03m", 2, ""}, asked{5, "\x00" + eightZeroes, 2, ""}, asked{3, "\x00k", 2, ""}, asked{6, "1", 2, ""})
		boot(t, d)
	}
}

// The keys are of no use also where the power went ahead of their loss, at each byte of it.
func TestThePowerGoesAheadOfTheLossOfTheKeys(t *testing.T) {
	for bytes := range 203 {
		d := opened(t, imaged(9, 1, "right", "k", "", "", "kk")+noImage)
		cut(t, d, bytes, OK)
		s := d.Feed(framed(1, "wrong"))
		boot(t, d)
		if bytes < 101 { // the try was not taken, nor looked at
			ask(t, d, asked{7, "", 0, "\x00\x01\x09"}, asked{1, "right", 0, ""})
			continue
		}
		bits := "\x09"
		if bytes == 202 {
			bits = "\x00"
		}
		ask(t, d, asked{7, "", 0, "\x00\x00" + bits})
		isOfNoUse(t, d)
		if (s == "") != (bytes < 202) {
			t.Errorf("P6: cut behind %d bytes: %q", bytes, s)
		}
	}
}

// A PIN that is right gives no tries back, if the power goes ahead of that.
func TestThePowerGoesAheadOfTheTriesThatARightPinGives(t *testing.T) {
	for bytes := 101; bytes < 202; bytes++ {
		d := newDevice(t, "right")
		for left := 4; left >= 0; left-- {
			cut(t, d, bytes, OK)
			answers(t, d, framed(1, "right"), "")
			boot(t, d)
			ask(t, d, asked{7, "", 0, "\x00" + string([]byte{byte(left)}) + "\x00"})
		}
		ask(t, d, asked{1, "right", 5, ""})
	}
}

// twins have keys in the same slots, but others.
type twins [2]*Device

var twinKeys = [2][]string{{"k", "kkkk", mixedText(20), "\x00"}, {strings.Repeat("\xa5", 20), "K", "1", "\xa7\x00"}}

// send sends one command; a key that it sets is each twin's own.
func (w twins) send(t *testing.T, kind int, payload string, key int) {
	t.Helper()
	var s [2]string
	for i, d := range w {
		own := payload
		if key >= 0 {
			own += twinKeys[i][key]
		}
		s[i] = d.Feed(framed(kind, own))
	}
	if isSecret := kind == 4 || kind == 5; isSecret && len(s[0]) > 4 {
		sameButForWhatIsTold(t, s)
	} else if s[0] != s[1] {
		t.Fatalf("P7: command %d with %q: %q and %q", kind, payload, s[0], s[1])
	}
}

func sameButForWhatIsTold(t *testing.T, s [2]string) {
	t.Helper()
	if len(s[0]) != len(s[1]) || s[0][:payloadAt] != s[1][:payloadAt] || s[0] == s[1] {
		t.Fatalf("P7: seals or codes by two keys: %q and %q", s[0], s[1])
	}
}

// P7: the same is answered, whatever the keys' bytes are.
func TestAnswersDoNotHangOnTheKeys(t *testing.T) {
	r := rand.New(rand.NewSource(5))
	for range 400 {
		w := twins{opened(t, imaged(5, 4, "1", twinKeys[0]...)+noImage), opened(t, imaged(5, 4, "1", twinKeys[1]...)+noImage)}
		for range 60 {
			w.randomStep(t, r)
		}
	}
}

func (w twins) randomStep(t *testing.T, r *rand.Rand) {
	t.Helper()
	slot := string([]byte{byte(r.Intn(5))})
	switch r.Intn(13) {
	case 0, 1, 2, 3:
		w.send(t, 1, "1", -1)
	case 4:
		w.send(t, 1, randomText(r, r.Intn(10)), -1)
	case 5:
		w.send(t, 3, slot, r.Intn(4))
	case 6:
		w.send(t, 3, slot, -1)
	case 7:
		w.send(t, 4, slot+"m", -1)
	case 8:
		w.send(t, 6, "1", -1)
	case 9:
		n := r.Intn(300)
		cut(t, w[0], n, OK)
		cut(t, w[1], n, OK)
	case 10:
		boot(t, w[0])
		boot(t, w[1])
	case 11:
		w.send(t, r.Intn(9), "", -1)
	case 12:
		w.send(t, 5, slot+eightZeroes, -1)
	}
	w.send(t, 7, "", -1)
}
