package frame

import (
	"hash/crc32"
	"math/rand"
	"testing"
)

func TestSum(t *testing.T) {
	for payload, want := range map[string]uint32{"123456789": 3421780262, "": 0, "\x00": 3523407757, "\xff": 4278190080, "\x00\x00": 1104745215, "a": 3904355907} {
		if got := sum(payload); got != want {
			t.Errorf("sum of %q = %d, want %d", payload, got, want)
		}
	}
	random := rand.New(rand.NewSource(1))
	for size := range 300 {
		bytes := make([]byte, size)
		random.Read(bytes)
		if got, want := sum(string(bytes)), crc32.ChecksumIEEE(bytes); got != want {
			t.Errorf("sum of %q = %d, want %d", bytes, got, want)
		}
	}
}

// A payload that long would take minutes to pack.
func TestSizeAbove32Bits(t *testing.T) {
	for bytes, want := range map[uint64]uint32{0: 0, 1: 1, 1<<32 - 1: 1<<32 - 1, 1 << 32: 0, 1<<32 + 5: 5, 7<<40 + 1<<31: 1 << 31} {
		if got := sizeOf(bytes); got != want {
			t.Errorf("the size of %d bytes is %d, want %d", bytes, got, want)
		}
	}
}

func TestFirst(t *testing.T) {
	frame := Pack("abc")
	for _, c := range []struct {
		bytes   string
		payload string
		found   finding
	}{
		{"", "", front},
		{"\xff\xff\xff", "", front},
		{"\xff\xff\xff\xff", "", broken},
		{frame[:10], "", front},
		{frame, "abc", whole},
		{frame + "\x00\x00\x00\x00", "abc", whole},
		{frame[:10] + "\x00", "", broken},
	} {
		if payload, found := first(c.bytes); payload != c.payload || found != c.found {
			t.Errorf("first(%q) = %q, %d, want %q, %d", c.bytes, payload, found, c.payload, c.found)
		}
	}
}
