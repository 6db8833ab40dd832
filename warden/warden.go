// Package warden: a small device that keeps keys and never tells them: see DOC.md.
package warden

// Errno is what a call answers: OK or the reason for a refusal.
type Errno int

const (
	OK       Errno = 0
	ErrPin   Errno = 1 // no PIN
	ErrFlash Errno = 2 // no flash with a right half
	ErrArg   Errno = 3 // a number or a key that may not be
)

// Device is one: what is kept is in its flash alone, and read there anew for
// each command.
type Device struct {
	flash    flash
	power    power
	unlocked bool
	come     string // of a frame whose end has not come
}

// New makes a device (P4).
func New(pin string) (*Device, Errno) {
	p, fits := pinOf(pin)
	if !fits {
		return nil, ErrPin
	}
	return &Device{flash: flash{firstImage(p)}}, OK
}

// Open makes a device with a flash (P4).
func Open(flash string) (*Device, Errno) {
	if len(flash) != flashSize {
		return nil, ErrFlash
	}
	d := &Device{flash: flashOf(flash)}
	if _, right := d.flash.kept(); !right {
		return nil, ErrFlash
	}
	return d, OK
}

// Feed tells what the device answers to some bytes (P5).
func (d *Device) Feed(bytes string) string {
	return d.answersTo(d.come + bytes)
}

// Cut says when the power goes (P6).
func (d *Device) Cut(n int) Errno {
	if n < 0 {
		return ErrArg
	}
	d.power.ending, d.power.left = true, n // power that is gone stays gone
	return OK
}

// Boot boots the device (P6).
func (d *Device) Boot() Errno {
	d.restart(power{})
	return OK
}

// Flash tells the flash, as it is now (P4).
func (d *Device) Flash() string {
	return d.flash.text()
}

// Sum tells the sum of some bytes (P3).
func Sum(bytes string) [32]byte {
	return sumBehind(startWords, 0, bytes)
}

// Seal tells the seal of a message by a key (P3).
func Seal(key string, message string) ([32]byte, Errno) {
	k, fits := keyOf(key)
	if !fits || k.none() {
		return [32]byte{}, ErrArg
	}
	return sealBy(k, message), OK
}

// Code tells the code of a key and a number (P3).
func Code(key string, number int) (string, Errno) {
	k, fits := keyOf(key)
	if !fits || k.none() || number < 0 {
		return "", ErrArg
	}
	eight := eightBytes(uint64(number))
	return codeBy(k, string(eight[:])), OK
}
