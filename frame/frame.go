// Package frame packs payloads into frames, and takes frames apart.
package frame

import (
	"strings"

	"veil/api"
)

// numberBytes is how many bytes each of a frame's two numbers has.
const numberBytes = 4

// Pack makes a frame of any payload, of one too that would be refused if it came in.
func Pack(payload string) string {
	var frame strings.Builder
	frame.Grow(len(payload) + 2*numberBytes)
	writeNumber(&frame, sizeOf(uint64(len(payload))))
	frame.WriteString(payload)
	writeNumber(&frame, sum(payload))
	return frame.String()
}

// Unpack tells the payloads of the frames with which the bytes begin, how many bytes these frames are, and whether what stands behind them is broken. A payload is copied, so that it does not hold on to all the bytes it came with.
func Unpack(bytes string) ([]string, int, bool) {
	var payloads []string
	taken := 0
	for {
		payload, found := first(bytes[taken:])
		if found != whole {
			return payloads, taken, found == broken
		}
		payloads = append(payloads, strings.Clone(payload))
		taken += len(payload) + 2*numberBytes
	}
}

// finding is what bytes begin with.
type finding int

const (
	front  finding = iota // of a frame, of which the rest may still come
	whole                 // a frame
	broken                // what no bytes behind it can make a frame
)

// first finds the frame with which bytes begin. A size that may not be is told ahead of the payload, as nobody needs to wait for it.
func first(bytes string) (string, finding) {
	if len(bytes) < numberBytes {
		return "", front
	}
	size := readNumber(bytes)
	if size < 1 || size > api.MaxFrame {
		return "", broken
	}
	end := numberBytes + int(size)
	if len(bytes) < end+numberBytes {
		return "", front
	}
	payload := bytes[numberBytes:end]
	if readNumber(bytes[end:]) != sum(payload) {
		return "", broken
	}
	return payload, whole
}

// sizeOf leaves out of a number of bytes what is above the 32 bits that a frame has for it.
func sizeOf(bytes uint64) uint32 { return uint32(bytes) }

func writeNumber(frame *strings.Builder, number uint32) {
	for shift := 8 * (numberBytes - 1); shift >= 0; shift -= 8 {
		frame.WriteByte(byte(number >> shift))
	}
}

// readNumber reads the number with which bytes begin, of which there are enough.
func readNumber(bytes string) uint32 {
	number := uint32(0)
	for i := range numberBytes {
		number = number<<8 | uint32(bytes[i])
	}
	return number
}
