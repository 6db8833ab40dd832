package warden

const numberSize = 8

// obey does one command on a copy of what is kept.
func (d *Device) obey(command byte, payload string) string {
	half, _ := d.flash.kept()
	work := d.flash[half]
	return d.obeyOn(&work, command, payload)
}

// obeyOn leaves nothing in the copy, and has no answer if the power goes.
func (d *Device) obeyOn(work *image, command byte, payload string) (answer string) {
	defer func() {
		end := recover()
		if end == nil {
			return
		}
		if _, lost := end.(powerLoss); !lost {
			panic(end) // a fault of the program is not to be hidden as a loss of power
		}
		d.restart(power{gone: true})
	}()
	defer work.wipe()
	return answerOf(d.do(work, command, payload))
}

func (d *Device) do(work *image, command byte, payload string) (status, string) {
	switch command {
	case 1:
		return d.unlock(work, payload)
	case 2:
		return d.lock(payload), ""
	case 3:
		return d.set(work, payload), ""
	case 4:
		return d.seal(work, payload)
	case 5:
		return d.code(work, payload)
	case 6:
		return d.setPin(work, payload), ""
	case 7:
		return d.tell(work, payload)
	}
	return noCommand, ""
}

func (d *Device) unlock(work *image, payload string) (status, string) {
	tried, fits := pinOf(payload)
	switch {
	case !fits:
		return wrongPayload, ""
	case work[triesAt] == 0:
		return nothingLeft, ""
	case work.worn():
		return isWorn, ""
	}
	d.unlocked = false
	work[triesAt]--
	d.write(work) // ahead of the look at the PIN: who pulls the plug has the try behind him
	if *work.pin() != tried {
		return d.refuse(work)
	}
	if work.worn() {
		return isWorn, ""
	}
	work[triesAt] = maxTries
	d.write(work)
	d.unlocked = true
	return done, ""
}

// refuse answers a wrong PIN; behind the last try there is nothing to guess for.
func (d *Device) refuse(work *image) (status, string) {
	if work[triesAt] == 0 && !work.worn() {
		work.dropKeys()
		d.write(work)
	}
	return wrongPin, string([]byte{work[triesAt]})
}

func (d *Device) lock(payload string) status {
	if payload != "" {
		return wrongPayload
	}
	d.unlocked = false
	return done
}

func (d *Device) set(work *image, payload string) status {
	slot, text, there := slotOf(payload)
	key, fits := keyOf(text)
	switch {
	case !d.unlocked:
		return isLocked
	case !there || !fits:
		return wrongPayload
	case work.worn():
		return isWorn
	}
	*work.key(slot) = key
	d.write(work)
	return done
}

func (d *Device) seal(work *image, payload string) (status, string) {
	slot, message, there := slotOf(payload)
	switch {
	case !d.unlocked:
		return isLocked, ""
	case !there:
		return wrongPayload, ""
	case work.key(slot).none():
		return nothingLeft, ""
	}
	seal := sealBy(*work.key(slot), message)
	return done, string(seal[:])
}

func (d *Device) code(work *image, payload string) (status, string) {
	slot, number, there := slotOf(payload)
	switch {
	case !d.unlocked:
		return isLocked, ""
	case !there || len(number) != numberSize:
		return wrongPayload, ""
	case work.key(slot).none():
		return nothingLeft, ""
	}
	return done, codeBy(*work.key(slot), number)
}

func (d *Device) setPin(work *image, payload string) status {
	pin, fits := pinOf(payload)
	switch {
	case !d.unlocked:
		return isLocked
	case !fits:
		return wrongPayload
	case work.worn():
		return isWorn
	}
	*work.pin() = pin
	d.write(work)
	return done
}

func (d *Device) tell(work *image, payload string) (status, string) {
	if payload != "" {
		return wrongPayload, ""
	}
	var open byte
	if d.unlocked {
		open = 1
	}
	return done, string([]byte{open, work[triesAt], work.slotBits()})
}

// slotOf takes the slot off a payload; false, if there is no such slot.
func slotOf(payload string) (slot int, rest string, there bool) {
	if payload == "" || payload[0] >= slots {
		return 0, "", false
	}
	return int(payload[0]), payload[1:], true
}
