package warden

import "strings"

const (
	maxPayload = 48

	begin = 0xa5

	// Where the parts of a frame stand.
	sizeAt    = 1
	commandAt = 2
	payloadAt = 3

	bareFrame = payloadAt + 1 // a frame without a payload
)

// status is what an answer has in place of a command.
type status byte

const (
	done         status = 0
	badFrame     status = 1
	isLocked     status = 2
	wrongPin     status = 3
	wrongPayload status = 4
	nothingLeft  status = 5 // no try, or no key
	noCommand    status = 6
	isWorn       status = 7
)

// answersTo cuts what has come into frames and answers each, while there is
// power. What may still become a frame waits for more.
func (d *Device) answersTo(come string) string {
	var answers strings.Builder
	for !d.power.gone {
	look:
		for come != "" && come[0] != begin {
			come = come[1:]
		}
		end, bad := frameEnd(come)
		if bad {
			answers.WriteString(answerOf(badFrame, ""))
			come = come[1:] // no more: a right frame may begin within a bad one
			goto look
		}
		if end == 0 {
			d.come = strings.Clone(come)
			return answers.String()
		}
		answers.WriteString(d.obey(come[commandAt], come[payloadAt:end-1]))
		come = come[end:]
	}
	return answers.String()
}

// frameEnd tells where the frame ends that begins here, 0 if its end has not
// come, and whether it is bad.
func frameEnd(come string) (end int, bad bool) {
	if len(come) <= sizeAt {
		return 0, false
	}
	if come[sizeAt] > maxPayload {
		return 0, true
	}
	end = bareFrame + int(come[sizeAt])
	if len(come) < end {
		return 0, false
	}
	return end, come[end-1] != checkOf(come[sizeAt:end-1])
}

func answerOf(s status, told string) string {
	answer := append([]byte{begin, byte(len(told)), byte(s)}, told...)
	return string(append(answer, checkOf(answer[sizeAt:])))
}
