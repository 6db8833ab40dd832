package warden

import (
	"crypto/sha256"
	"encoding/hex"
	"strings"
	"testing"
)

// edgeLengths: where the 80, the length, or both no longer fit into a block.
var edgeLengths = []int{0, 1, 54, 55, 56, 57, 63, 64, 65, 118, 119, 120, 121, 127, 128, 129}

// mixedText has bytes of all kinds, also such as are no UTF-8.
func mixedText(length int) string {
	b := make([]byte, length)
	for i := range b {
		b[i] = byte(251*i + length)
	}
	return string(b)
}

func TestSumOfTheExamples(t *testing.T) {
	for text, want := range map[string]string{
		"":    "e3b0c44298fc1c149afbf4c8996fb92427ae41e4649b934ca495991b7852b855",
		"abc": "ba7816bf8f01cfea414140de5dae2223b00361a396177a9cb410ff61f20015ad",
	} {
		if x := Sum(text); hex.EncodeToString(x[:]) != want {
			t.Errorf("P3: Sum(%q) = %x, want %s", text, x, want)
		}
	}
}

func TestSumAtWrittenLengths(t *testing.T) {
	for length, want := range map[int]string{
		55:  "9f4390f8d30c2dd92ec9f095b65e2b9ae9b0a925a5258e241c9f1e910f734318",
		56:  "b35439a4ac6f0948b6d6f9e3c6af0f5f590ce20f1bde7090ef7970686ec6738a",
		63:  "7d3e74a05d7db15bce4ad9ec0658ea98e3f06eeecf16b4c6fff2da457ddc2f34",
		64:  "ffe054fe7ae0cb6dc65c3af9b61d5209f439851db43d0ba5997337df154668eb",
		65:  "635361c48bb9eab14198e76ea8ab7f1a41685d6ad62aa9146d301d4f17eb0ae0",
		119: "31eba51c313a5c08226adf18d4a359cfdfd8d2e816b13f4af952f7ea6584dcfb",
		120: "2f3d335432c70b580af0e8e1b3674a7c020d683aa5f73aaaedfdc55af904c21c",
	} {
		if x := Sum(strings.Repeat("a", length)); hex.EncodeToString(x[:]) != want {
			t.Errorf("P3: Sum of %d a = %x, want %s", length, x, want)
		}
	}
}

func TestSumOfMixedBytes(t *testing.T) {
	// 300 and 9000 bytes: their numbers of bits need two and three bytes.
	for _, length := range append([]int{300, 9000}, edgeLengths...) {
		text := mixedText(length)
		if x := Sum(text); x != sha256.Sum256([]byte(text)) {
			t.Errorf("P3: Sum of %d mixed bytes = %x", length, x)
		}
	}
}

func TestSumOfZeroesDependsOnTheirLength(t *testing.T) {
	seen := map[[32]byte]int{}
	for length := range 130 {
		x := Sum(strings.Repeat("\x00", length))
		if other, ok := seen[x]; ok {
			t.Errorf("P3: %d and %d bytes 0 have the same sum", other, length)
		}
		seen[x] = length
	}
}
