package wire

// Low32 is the lowest 32 bits.
func Low32(v uint64) uint64 { return uint64(uint32(v)) }

// Signed32 is the lowest 32 bits, with their sign.
func Signed32(v uint64) uint64 { return uint64(int32(v)) }

// FromZigzag64 is the number with a sign that a varint of sint64 tells: of 0, 1, 2, 3 it is 0, -1, 1, -2.
func FromZigzag64(v uint64) uint64 { return v>>1 ^ -(v & 1) }

// FromZigzag32 is FromZigzag64 of the lowest 32 bits.
func FromZigzag32(v uint64) uint64 { return FromZigzag64(Low32(v)) }

// ToZigzag is the varint of a number of sint32 or sint64: FromZigzag64 the other way round.
func ToZigzag(v uint64) uint64 { return v<<1 ^ -(v >> 63) }

// Truth is 1, if there is a bit in v.
func Truth(v uint64) uint64 {
	if v != 0 {
		return 1
	}
	return 0
}
