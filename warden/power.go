package warden

// power is what the device runs on. Without a Cut it does not go.
type power struct {
	gone   bool
	ending bool
	left   int // bytes that can still be written, if it is ending
}

// powerLoss is the panic that ends the command in whose middle the power goes.
type powerLoss struct{}

// spend comes ahead of each byte that is written.
func (p *power) spend() {
	if !p.ending {
		return
	}
	if p.left == 0 {
		panic(powerLoss{})
	}
	p.left--
}

// restart leaves nothing but what outlives the power: the flash.
func (d *Device) restart(with power) {
	*d = Device{flash: d.flash, power: with}
}
