package seal

const (
	octet = 8          // how many bits a byte has
	turns = 0xedb88320 // the bits that turn where those that come out are unlike
)

// Sum is the sum of bytes.
func Sum(s string) uint32 {
	sum := ^uint32(0)
	for i := range len(s) {
		for bit := range octet {
			unlike := (sum ^ uint32(s[i])>>bit) & 1
			sum >>= 1
			if unlike == 1 {
				sum ^= turns
			}
		}
	}
	return ^sum
}

// foot is the sum of what stands ahead of it, as bytes of a sector: the lowest first, unlike the numbers of a record.
func foot(s string) string {
	sum := Sum(s)
	var out [ofSum]byte
	for i := range out {
		out[i] = byte(sum >> (octet * i))
	}
	return string(out[:])
}
