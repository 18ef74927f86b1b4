package veil

import (
	"encoding/binary"
	"hash/crc32"
	"math/rand"
	"slices"
	"strings"
	"sync"
	"testing"
	"unsafe"

	"veil/api"
)

// framed is a payload as a frame, by the library's means.
func framed(payload string) string {
	bytes := binary.BigEndian.AppendUint32(nil, uint32(len(payload)))
	bytes = append(bytes, payload...)
	return string(binary.BigEndian.AppendUint32(bytes, crc32.ChecksumIEEE([]byte(payload))))
}

// turned is bytes of which one bit of one byte is turned.
func turned(bytes string, place, bit int) string {
	other := []byte(bytes)
	other[place] ^= 1 << bit
	return string(other)
}

func wantUnpacked(t *testing.T, bytes string, payloads []string, taken int, broken bool) {
	t.Helper()
	p, n, b := Unpack(bytes)
	if !slices.Equal(p, payloads) || n != taken || b != broken {
		t.Errorf("Unpack(%.60q) = %.60q, %d, %v, want %.60q, %d, %v", bytes, p, n, b, payloads, taken, broken)
	}
}

func TestPackOfTheExample(t *testing.T) {
	want := string([]byte{0, 0, 0, 9}) + "123456789" + string([]byte{203, 244, 57, 38})
	if got := Pack("123456789"); got != want {
		t.Errorf("%q, want %q", got, want)
	}
}

func TestPack(t *testing.T) {
	// The longest has another number in each of the four bytes of its size.
	payloads := []string{"", "x", "ok", "no 12", "\x00", "\xff\x00\x80", strings.Repeat("y", 255), strings.Repeat("y", 256), strings.Repeat("y", 1000), strings.Repeat("y", 1001), strings.Repeat("ab\x00", 30000), strings.Repeat("z", 0x01020304)}
	for _, payload := range payloads {
		if got := Pack(payload); got != framed(payload) {
			t.Errorf("Pack(%.20q), of %d bytes, = %.40q", payload, len(payload), got)
		}
	}
}

func TestUnpackOfTheExample(t *testing.T) {
	frame := Pack("123456789")
	wantUnpacked(t, frame+frame[:3], []string{"123456789"}, len(frame), false)
	wantUnpacked(t, "\x00\x00\x00\x00", nil, 0, true)
	wantUnpacked(t, string([]byte{0, 0, 3, 232}), nil, 0, false)
	wantUnpacked(t, string([]byte{0, 0, 3, 233}), nil, 0, true)
}

func TestUnpackSizes(t *testing.T) {
	for _, c := range []struct {
		size   uint32
		broken bool
	}{
		{0, true}, {1, false}, {2, false}, {255, false}, {256, false}, {999, false}, {1000, false}, {1001, true}, {1024, true}, {65536, true}, {65537, true}, {1 << 24, true}, {1<<24 + 1, true}, {1 << 31, true}, {1<<31 + 1, true}, {1<<32 - 1, true},
	} {
		head := string(binary.BigEndian.AppendUint32(nil, c.size))
		wantUnpacked(t, head, nil, 0, c.broken)
		wantUnpacked(t, head+"x", nil, 0, c.broken)
		wantUnpacked(t, framed("ahead")+head, []string{"ahead"}, 13, c.broken)
		for i := range 4 {
			wantUnpacked(t, head[:i], nil, 0, false)
		}
	}
}

func TestUnpackLongPayloads(t *testing.T) {
	longest := strings.Repeat("y", api.MaxFrame)
	wantUnpacked(t, Pack(longest), []string{longest}, api.MaxFrame+8, false)
	wantUnpacked(t, Pack(longest)+Pack("x"), []string{longest, "x"}, api.MaxFrame+17, false)
	wantUnpacked(t, Pack(longest+"y"), nil, 0, true)
	wantUnpacked(t, Pack(""), nil, 0, true)
	wantUnpacked(t, Pack("x")+Pack("")+Pack("x"), []string{"x"}, 9, true)
}

func TestUnpackManyFrames(t *testing.T) {
	const count = 100000
	wantUnpacked(t, strings.Repeat(Pack("x"), count), slices.Repeat([]string{"x"}, count), 9*count, false)
	wantUnpacked(t, strings.Repeat("\x00\x00\x03\xe7", count), nil, 0, true)
}

func TestUnpackFronts(t *testing.T) {
	payloads := []string{"a", "bc", "\x00\x00\x00\x00", strings.Repeat("z", api.MaxFrame)}
	bytes, ends := "", []int{0}
	for _, payload := range payloads {
		bytes += Pack(payload)
		ends = append(ends, len(bytes))
	}
	frames := 0
	for i := range len(bytes) + 1 {
		if frames < len(payloads) && i == ends[frames+1] {
			frames++
		}
		wantUnpacked(t, bytes[:i], payloads[:frames], ends[frames], false)
	}
}

// A sum tells each single bit that is turned, so no such frame is taken, and none behind it.
func TestUnpackTurnedBits(t *testing.T) {
	ahead, frame := Pack("one")+Pack("two"), Pack("three")
	for place := 4; place < len(frame); place++ {
		for bit := range 8 {
			wrong := turned(frame, place, bit)
			wantUnpacked(t, wrong, nil, 0, true)
			wantUnpacked(t, ahead+wrong+Pack("four"), []string{"one", "two"}, len(ahead), true)
			wantUnpacked(t, ahead+wrong[:len(wrong)-1], []string{"one", "two"}, len(ahead), false)
		}
	}
}

// unpacked is Unpack by the words of the document: it tries all sizes that a frame may have, and holds what stands there against the frame that should.
func unpacked(bytes string) ([]string, int, bool) {
	for size := 1; size <= api.MaxFrame && size+8 <= len(bytes); size++ {
		frame := framed(bytes[4 : 4+size])
		if strings.HasPrefix(bytes, frame) {
			payloads, taken, broken := unpacked(bytes[len(frame):])
			return append([]string{bytes[4 : 4+size]}, payloads...), taken + len(frame), broken
		}
	}
	if len(bytes) < 4 {
		return nil, 0, false
	}
	told := uint64(binary.BigEndian.Uint32([]byte(bytes[:4])))
	return nil, 0, told == 0 || told > api.MaxFrame || uint64(len(bytes)) >= told+8
}

// muddled is frames of random payloads, at times with something wrong about them.
func muddled(random *rand.Rand) string {
	bytes := ""
	for range random.Intn(5) {
		payload := make([]byte, random.Intn(12))
		random.Read(payload)
		bytes += framed(string(payload))
	}
	if len(bytes) > 0 && random.Intn(2) == 0 {
		bytes = turned(bytes, random.Intn(len(bytes)), random.Intn(8))
	}
	if random.Intn(2) == 0 {
		bytes = bytes[:random.Intn(len(bytes)+1)]
	}
	return bytes
}

func TestUnpackAgainstTheWords(t *testing.T) {
	random := rand.New(rand.NewSource(5))
	for range 5000 {
		bytes := muddled(random)
		payloads, taken, broken := unpacked(bytes)
		wantUnpacked(t, bytes, payloads, taken, broken)
	}
}

// whole is a list with its spare room.
func whole(list []string) []string { return list[:cap(list)] }

func TestUnpackedListsShareNothing(t *testing.T) {
	for count := range 20 {
		bytes := strings.Repeat(Pack("same"), count)
		first, _, _ := Unpack(bytes)
		second, _, _ := Unpack(bytes)
		before := slices.Clone(whole(second))
		for i := range whole(first) {
			whole(first)[i] = "other"
		}
		third, _, _ := Unpack(bytes)
		if !slices.Equal(whole(second), before) || !slices.Equal(whole(third), before) {
			t.Errorf("%d frames: what is written into one list is in another", count)
		}
		if appended := append(first, "more"); !slices.Equal(whole(second), before) {
			t.Errorf("%d frames: what joins %q is in another list", count, appended)
		}
	}
}

// overlaps tells whether two texts lie in the same memory, somewhere.
func overlaps(a, b string) bool {
	start, other := uintptr(unsafe.Pointer(unsafe.StringData(a))), uintptr(unsafe.Pointer(unsafe.StringData(b)))
	return start < other+uintptr(len(b)) && other < start+uintptr(len(a))
}

func TestFrameAnswersAreNewMemory(t *testing.T) {
	payload := strings.Repeat("x", 50)
	frame := Pack(payload)
	if overlaps(frame, payload) {
		t.Errorf("a frame lies in its payload's memory")
	}
	bytes := strings.Repeat(frame, 3)
	first, _, _ := Unpack(bytes)
	second, _, _ := Unpack(bytes)
	texts := append(append([]string{bytes}, first...), second...)
	for i, text := range texts {
		for k, other := range texts[:i] {
			if overlaps(text, other) {
				t.Errorf("text %d lies in the memory of text %d", i, k)
			}
		}
	}
}

func TestFramesHangOnTheArgumentsAlone(t *testing.T) {
	var group sync.WaitGroup
	for i := range 8 {
		group.Go(func() {
			random := rand.New(rand.NewSource(int64(i)))
			for range 200 {
				bytes := muddled(random)
				payloads, taken, broken := unpacked(bytes)
				wantUnpacked(t, bytes, payloads, taken, broken)
				if Pack(bytes) != framed(bytes) {
					t.Errorf("Pack(%q) = %q", bytes, Pack(bytes))
				}
			}
		})
	}
	group.Wait()
}

func FuzzFrames(f *testing.F) {
	for _, payload := range []string{"", "x", "sub 0 all docs", strings.Repeat("y", 1000), strings.Repeat("y", 1001)} {
		f.Add(payload)
		f.Add(framed(payload))
		f.Add(framed("x") + framed(payload) + framed("z")[:5])
	}
	f.Fuzz(func(t *testing.T, bytes string) {
		payloads, taken, broken := unpacked(bytes)
		wantUnpacked(t, bytes, payloads, taken, broken)
		if Pack(bytes) != framed(bytes) {
			t.Errorf("Pack(%q) = %q", bytes, Pack(bytes))
		}
	})
}
