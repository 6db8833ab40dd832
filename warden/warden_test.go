package warden

import "testing"

// The names are constants of the type, so that they stand where only a constant may.
const (
	constantOK       Errno = OK
	constantErrPin   Errno = ErrPin
	constantErrFlash Errno = ErrFlash
	constantErrArg   Errno = ErrArg
)

func TestErrnoNumbers(t *testing.T) {
	for want, e := range []Errno{constantOK, constantErrPin, constantErrFlash, constantErrArg} {
		if int(e) != want {
			t.Errorf("the error named as number %d is %d", want, int(e))
		}
	}
}
