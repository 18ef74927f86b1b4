package frame

const (
	sumStart = 4294967295
	sumTurn  = 3988292384
)

// sum is the payload's sum, with which a frame ends.
func sum(payload string) uint32 {
	s := uint32(sumStart)
	for i := range len(payload) {
		s = sumByte(s ^ uint32(payload[i]))
	}
	return ^s
}

// sumByte moves the sum down by the eight bits of a byte.
func sumByte(s uint32) uint32 {
	for range 8 {
		fallen := s & 1
		s >>= 1
		if fallen == 1 {
			s ^= sumTurn
		}
	}
	return s
}
