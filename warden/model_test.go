package warden

import (
	"encoding/binary"
	"math"
	"math/rand"
	"strings"
	"testing"
)

// model does what the document says, in another way: it keeps texts and
// numbers, not a flash, and looks at every byte that comes by itself.
type model struct {
	kept
	written  kept // what the half that counts has
	unlocked bool
	halves   [2]string
	now      int
	come     string
	gone     bool
	left     int // bytes until the power goes; steady, if it does not
}

type kept struct {
	number uint32
	tries  int
	pin    string
	keys   [4]string
}

const steady = -1

func (k kept) image() string {
	return imaged(k.number, k.tries, k.pin, k.keys[:]...)
}

// write tells whether the power lasted for all of it.
func (m *model) write() bool {
	m.number++
	other := &m.halves[1-m.now]
	if m.left != steady && m.left < 101 {
		*other = partly(*other, m.image(), m.left)
		m.gone, m.come, m.unlocked, m.kept = true, "", false, m.written
		return false
	}
	*other = m.image()
	m.now, m.written = 1-m.now, m.kept
	if m.left != steady {
		m.left -= 101
	}
	return true
}

// partly is a half of whose 101 bytes so many (up to 100) have been written.
func partly(was, image string, bytes int) string {
	if bytes == 0 {
		return was
	}
	return "\x00" + image[1:bytes] + was[bytes:]
}

func (m *model) cut(n int) Errno {
	if n < 0 {
		return ErrArg
	}
	m.left = n
	return OK
}

func (m *model) boot() {
	m.gone, m.left, m.come, m.unlocked = false, steady, "", false
}

func (m *model) worn() bool { return m.number == greatest }

func (m *model) feed(bytes string) string {
	all := ""
	for _, b := range []byte(bytes) {
		if m.gone {
			break
		}
		m.come += string([]byte{b})
		for again := true; again; {
			var answer string
			answer, again = m.look()
			all += answer
		}
	}
	return all
}

// look takes at most one thing off what has come; whether to look again.
func (m *model) look() (string, bool) {
	switch s := m.come; {
	case s == "":
		return "", false
	case s[0] != 0xa5:
		m.come = s[1:]
		return "", true
	case len(s) == 1:
		return "", false
	case s[1] > 48:
		m.come = s[1:]
		return framed(1, ""), true
	case len(s) < int(s[1])+4:
		return "", false
	case s[:int(s[1])+4] != framed(int(s[2]), s[3:int(s[1])+3]):
		m.come = s[1:]
		return framed(1, ""), true
	default:
		m.come = s[int(s[1])+4:]
		return m.answer(int(s[2]), s[3:int(s[1])+3]), true
	}
}

func (m *model) answer(kind int, payload string) string {
	slot := 99
	if payload != "" {
		slot = int(payload[0])
	}
	switch {
	case kind < 1 || kind > 7:
		return framed(6, "")
	case kind >= 3 && kind <= 6 && !m.unlocked:
		return framed(2, "")
	case (kind == 2 || kind == 7) && payload != "",
		(kind == 1 || kind == 6) && (payload == "" || len(payload) > 8),
		kind >= 3 && kind <= 5 && slot > 3,
		kind == 3 && len(payload) > 21,
		kind == 5 && len(payload) != 9:
		return framed(4, "")
	case kind == 1 && m.tries == 0, (kind == 4 || kind == 5) && m.keys[slot] == "":
		return framed(5, "")
	case (kind == 1 || kind == 3 || kind == 6) && m.worn():
		return framed(7, "")
	}
	return m.carryOut(kind, slot, payload)
}

func (m *model) carryOut(kind, slot int, payload string) string {
	switch kind {
	case 1:
		return m.try(payload)
	case 2:
		m.unlocked = false
	case 3:
		m.keys[slot] = payload[1:]
		if !m.write() {
			return ""
		}
	case 4:
		seal := wantedSeal(m.keys[slot], payload[1:])
		return framed(0, string(seal[:]))
	case 5:
		return framed(0, wantedCode(m.keys[slot], int(binary.BigEndian.Uint64([]byte(payload[1:])))))
	case 6:
		m.pin = payload
		if !m.write() {
			return ""
		}
	case 7:
		return framed(0, m.told())
	}
	return framed(0, "")
}

func (m *model) try(pin string) string {
	m.unlocked = false
	m.tries--
	if !m.write() {
		return ""
	}
	if pin == m.pin && m.worn() {
		return framed(7, "")
	}
	if pin == m.pin {
		m.tries, m.unlocked = 5, true
		if !m.write() {
			return ""
		}
		return framed(0, "")
	}
	if m.tries == 0 && !m.worn() {
		m.keys = [4]string{}
		if !m.write() {
			return ""
		}
	}
	return framed(3, string([]byte{byte(m.tries)}))
}

func (m *model) told() string {
	told := []byte{0, byte(m.tries), 0}
	if m.unlocked {
		told[0] = 1
	}
	for slot, key := range m.keys {
		if key != "" {
			told[2] += 1 << slot
		}
	}
	return string(told)
}

// pair is a device and what it should be.
type pair struct {
	device *Device
	model  *model
}

func randomText(r *rand.Rand, length int) string {
	b := make([]byte, length)
	for i := range b {
		b[i] = "\x00\x01\x02\x03\x04\x07\x08\x30\x31\xa5\xa5\xa7k\xff"[r.Intn(14)]
	}
	return string(b)
}

func randomPair(t *testing.T, r *rand.Rand) pair {
	m := &model{kept: kept{number: 1, tries: 5, pin: randomText(r, 1+r.Intn(8))}, halves: [2]string{noImage, noImage}, left: steady}
	if r.Intn(2) == 0 {
		m.halves[0], m.written = m.image(), m.kept
		return pair{newDevice(t, m.pin), m}
	}
	m.tries = r.Intn(6)
	m.number = []uint32{1, 255, 0xffff, 0x7fffffff, greatest - 40, greatest - 9, greatest - 3, greatest - 1, greatest}[r.Intn(9)]
	for slot := range 4 {
		m.keys[slot] = randomText(r, r.Intn(21))
	}
	m.now = r.Intn(2)
	m.halves[m.now], m.written = m.image(), m.kept
	m.halves[1-m.now] = []string{noImage, randomText(r, 100), "\x00" + imaged(greatest, 5, "other")[1:]}[r.Intn(3)]
	return pair{opened(t, m.halves[0]+m.halves[1]), m}
}

// randomBytes are mostly right frames, some of them broken.
func randomBytes(r *rand.Rand, m *model) string {
	slot := string([]byte{byte(r.Intn(5))})
	right := []string{
		framed(1, m.pin), framed(1, m.pin), framed(1, m.pin), framed(1, m.pin), framed(1, randomText(r, r.Intn(10))),
		framed(2, randomText(r, r.Intn(2))), framed(3, slot+randomText(r, r.Intn(22))), framed(3, slot), framed(4, slot+randomText(r, r.Intn(48))),
		framed(5, slot+randomText(r, 8)), framed(5, slot+randomText(r, r.Intn(10))), framed(6, randomText(r, r.Intn(10))),
		framed(7, ""), framed(7, ""), framed(r.Intn(256), randomText(r, r.Intn(49))), framed(r.Intn(9), ""),
	}[r.Intn(16)]
	switch r.Intn(12) {
	case 0:
		return randomText(r, r.Intn(60))
	case 1:
		return right[:r.Intn(len(right))]
	case 2:
		at := r.Intn(len(right))
		return right[:at] + randomText(r, 1) + right[at+1:]
	case 3:
		return randomText(r, r.Intn(5)) + right
	}
	return right
}

func (p pair) feeds(t *testing.T, bytes string) {
	t.Helper()
	s, want := p.device.Feed(bytes), p.model.feed(bytes)
	if s != want {
		t.Fatalf("P5: Feed(%q) = %q, want %q", bytes, s, want)
	}
	if p.device.Flash() != strings.Join(p.model.halves[:], "") {
		t.Fatalf("P4, P5: behind Feed(%q) Flash = %q, want %q", bytes, p.device.Flash(), p.model.halves)
	}
}

func (p pair) cuts(t *testing.T, n int) {
	t.Helper()
	if e, want := p.device.Cut(n), p.model.cut(n); e != want {
		t.Fatalf("P6: Cut(%d) = %d, want %d", n, e, want)
	}
}

func (p pair) boots(t *testing.T) {
	t.Helper()
	p.model.boot()
	if e := p.device.Boot(); e != OK {
		t.Fatalf("P6: Boot = %d", e)
	}
}

func (p pair) feedsInPieces(t *testing.T, r *rand.Rand) {
	t.Helper()
	bytes := randomBytes(r, p.model)
	for range r.Intn(3) {
		bytes += randomBytes(r, p.model)
	}
	for len(bytes) > 0 {
		n := 1 + r.Intn(len(bytes))
		p.feeds(t, bytes[:n])
		bytes = bytes[n:]
	}
}

// P1, P4 and P5 with any bytes in any pieces, and P2: three devices by turns.
func TestDevicesAsTheModel(t *testing.T) {
	r := rand.New(rand.NewSource(1))
	for range 1500 {
		pairs := []pair{randomPair(t, r), randomPair(t, r), randomPair(t, r)}
		for range 60 {
			pairs[r.Intn(3)].feedsInPieces(t, r)
		}
	}
}

// P1, P2 and P6: the same, and the power of each goes and comes.
func TestDevicesWhosePowerGoesAsTheModel(t *testing.T) {
	r := rand.New(rand.NewSource(3))
	for range 1500 {
		pairs := []pair{randomPair(t, r), randomPair(t, r), randomPair(t, r)}
		for range 80 {
			p := pairs[r.Intn(3)]
			switch r.Intn(12) {
			case 0, 1:
				p.cuts(t, randomCut(r))
			case 2:
				p.boots(t)
			case 3, 4:
				if p.model.gone {
					p.boots(t)
				}
			default:
				p.feedsInPieces(t, r)
			}
		}
	}
}

func randomCut(r *rand.Rand) int {
	if r.Intn(2) == 0 {
		return r.Intn(404)
	}
	return []int{math.MinInt, -101, -1, 0, 1, 2, 99, 100, 101, 102, 202, 203, 303, math.MaxInt}[r.Intn(14)]
}

func TestTwoDevicesByTurns(t *testing.T) {
	a, b := newDevice(t, "1"), newDevice(t, "2")
	ask(t, a, asked{1, "1", 0, ""})
	ask(t, b, asked{7, "", 0, "\x00\x05\x00"}, asked{1, "1", 3, "\x04"})
	ask(t, a, asked{7, "", 0, "\x01\x05\x00"}, asked{3, "\x00k", 0, ""})
	ask(t, b, asked{1, "2", 0, ""}, asked{4, "\x00m", 5, ""}, asked{3, "\x01other", 0, ""})
	ask(t, a, asked{7, "", 0, "\x01\x05\x01"}, asked{2, "", 0, ""})
	ask(t, b, asked{7, "", 0, "\x01\x05\x02"})
	if s := a.Feed("\xa5\x00") + b.Feed("\x07\x08") + a.Feed("\x07\x08"); s != framed(0, "\x00\x05\x01") {
		t.Errorf("P2: half a frame for one device, the rest for another: %q", s)
	}
	flashIs(t, a, imaged(3, 5, "1"), imaged(4, 5, "1", "k"))
	flashIs(t, b, imaged(5, 5, "2", "", "other"), imaged(4, 5, "2"))
}

func TestTwoDevicesOfOneFlash(t *testing.T) {
	flash := imaged(9, 5, "1", "k") + noImage
	a, b := opened(t, flash), opened(t, flash)
	ask(t, a, asked{1, "1", 0, ""}, asked{6, "2", 0, ""}, asked{3, "\x00", 0, ""})
	ask(t, b, asked{7, "", 0, "\x00\x05\x01"}, asked{1, "2", 3, "\x04"}, asked{1, "1", 0, ""})
	ask(t, opened(t, flash), asked{7, "", 0, "\x00\x05\x01"})
}

func TestNoCallPanicsWhateverComes(t *testing.T) {
	r := rand.New(rand.NewSource(2))
	for range 3000 {
		random := make([]byte, r.Intn(300))
		r.Read(random)
		if d, e := New(string(random)); (d == nil) != (e != OK) {
			t.Errorf("P1: New(%q) = %v, %d", random, d, e)
		}
		if d, e := Open(string(random)); (d == nil) != (e != OK) {
			t.Errorf("P1: Open(%q) = %v, %d", random, d, e)
		}
		randomPair(t, r).feeds(t, string(random))
	}
}

func TestLongFeeds(t *testing.T) {
	const many = 1 << 18
	for unit, want := range map[string]int{"x": 0, "\xa5": many - 1, "\xa5\x31": many, tell: many} {
		s := newDevice(t, "1").Feed(strings.Repeat(unit, many))
		if got := strings.Count(s, "\xa5"); got != want {
			t.Errorf("P1, P5: %d times %q has %d answers, want %d", many, unit, got, want)
		}
	}
}
