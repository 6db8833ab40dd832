package warden

import (
	"crypto/hmac"
	"crypto/sha256"
	"encoding/binary"
	"encoding/hex"
	"fmt"
	"math"
	"strings"
	"testing"
)

const exampleKey = "12345678901234567890"

var (
	rightKeys = []string{"k", "\x00", "\xff", "\x80k", mixedText(19), mixedText(20), exampleKey}
	wrongKeys = []string{"", strings.Repeat("k", 21), strings.Repeat("\x00", 21), strings.Repeat("k", 64), strings.Repeat("k", 100000)}
)

func wantedSeal(key, message string) [32]byte {
	h := hmac.New(sha256.New, []byte(key))
	h.Write([]byte(message))
	return [32]byte(h.Sum(nil))
}

func wantedCode(key string, number int) string {
	seal := wantedSeal(key, string(binary.BigEndian.AppendUint64(nil, uint64(number))))
	n := seal[31] & 15
	return fmt.Sprintf("%06d", binary.BigEndian.Uint32(seal[n:n+4])&math.MaxInt32%1000000)
}

// The first three are test cases 1 to 3 of RFC 4231; the others were reckoned by another HMAC-SHA-256.
func TestSealAsWritten(t *testing.T) {
	for _, c := range []struct{ key, message, want string }{
		{strings.Repeat("\x0b", 20), "Hi There", "b0344c61d8db38535ca8afceaf0bf12b881dc200c9833da726e9376c2e32cff7"},
		{"Jefe", "what do ya want for nothing?", "5bdcc146bf60754e6a042426089575c75a003f089d2739839dec58b964ec3843"},
		{strings.Repeat("\xaa", 20), strings.Repeat("\xdd", 50), "773ea91e36800e46854db8ebd09181a72959098b3ef8c122d9635514ced565fe"},
		{"k", "", "8bb990c40a7d61cb97597a942125025be50ac8beb74436e3735b98893a7f6620"},
		{exampleKey, "", "b635607ee485864c854796eab1bf1af256de1c6003185b2ed4ef395f6c200adf"},
		{exampleKey, "abc", "24a5720efa753bd54f7eba65ee0500e7395255102c6a0222ce2261d9a40f2e5a"},
	} {
		if x, e := Seal(c.key, c.message); hex.EncodeToString(x[:]) != c.want || e != OK {
			t.Errorf("P3: Seal(%q, %q) = %x, %d, want %s", c.key, c.message, x, e, c.want)
		}
	}
}

func TestSealAtTheEdges(t *testing.T) {
	for _, key := range rightKeys {
		for _, length := range edgeLengths {
			message := mixedText(length)
			if x, e := Seal(key, message); x != wantedSeal(key, message) || e != OK {
				t.Errorf("P3: Seal(%q, %d bytes) = %x, %d", key, length, x, e)
			}
		}
	}
}

func TestSealOfAllKeyLengths(t *testing.T) {
	for length := 1; length <= 20; length++ {
		key := mixedText(length)
		if x, e := Seal(key, "m"); x != wantedSeal(key, "m") || e != OK {
			t.Errorf("P3: Seal by a key of %d bytes = %x, %d", length, x, e)
		}
	}
}

func TestSealFillsKeysUpWithZeroes(t *testing.T) {
	short, _ := Seal("k", "m")
	long, e := Seal("k"+strings.Repeat("\x00", 19), "m")
	if short != long || e != OK {
		t.Errorf("P3: a key and the same with bytes 0 behind it seal differently: %x, %x, %d", short, long, e)
	}
}

func TestSealRefusesWrongKeys(t *testing.T) {
	for _, key := range wrongKeys {
		for _, message := range []string{"", "m", mixedText(200)} {
			if x, e := Seal(key, message); x != [32]byte{} || e != ErrArg {
				t.Errorf("P1, P3: Seal by a key of %d bytes = %x, %d", len(key), x, e)
			}
		}
	}
}

// The first two are the document's; the others were reckoned by another HMAC-SHA-256.
func TestCodeAsWritten(t *testing.T) {
	for _, c := range []struct {
		key    string
		number int
		want   string
	}{
		{exampleKey, 0, "875740"},
		{exampleKey, 1, "247374"},
		{exampleKey, 21, "048677"},
		{exampleKey, 1953, "000441"},
		{exampleKey, 187300, "000007"},
		{exampleKey, math.MaxInt, "076418"},
		{"k", 0, "850361"},
		{"k", math.MaxInt, "436259"},
		{"\xff", math.MaxInt, "074498"},
	} {
		if s, e := Code(c.key, c.number); s != c.want || e != OK {
			t.Errorf("P3: Code(%q, %d) = %q, %d, want %q", c.key, c.number, s, e, c.want)
		}
	}
}

func TestCodeOfManyNumbers(t *testing.T) {
	for _, key := range rightKeys {
		for i := range 63 {
			for _, number := range []int{i, 1<<i - 1, 1 << i, math.MaxInt - i} {
				if s, e := Code(key, number); s != wantedCode(key, number) || e != OK {
					t.Errorf("P3: Code(%q, %d) = %q, %d", key, number, s, e)
				}
			}
		}
	}
}

func TestCodeTakesAllPlaces(t *testing.T) {
	places := map[byte]int{}
	for number := range 300 {
		seal := wantedSeal("k", string(binary.BigEndian.AppendUint64(nil, uint64(number))))
		places[seal[31]%16]++
		if s, e := Code("k", number); s != wantedCode("k", number) || e != OK {
			t.Errorf("P3: Code(k, %d) = %q, %d", number, s, e)
		}
	}
	if len(places) != 16 {
		t.Errorf("only %d of 16 places are tried", len(places))
	}
}

func TestCodeRefusesWrongArguments(t *testing.T) {
	for _, key := range wrongKeys {
		for _, number := range []int{0, 1, math.MaxInt, -1, math.MinInt} {
			if s, e := Code(key, number); s != "" || e != ErrArg {
				t.Errorf("P1, P3: Code by a key of %d bytes, %d = %q, %d", len(key), number, s, e)
			}
		}
	}
	for _, key := range rightKeys {
		for _, number := range []int{-1, -2, math.MinInt + 1, math.MinInt} {
			if s, e := Code(key, number); s != "" || e != ErrArg {
				t.Errorf("P1, P3: Code(%q, %d) = %q, %d", key, number, s, e)
			}
		}
	}
}
