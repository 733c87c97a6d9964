// Package words tells numbers of 64 bits as bytes, the highest first: as
// elements, points, transactions and blocks all have theirs.
package words

// Size is how many bytes a number has.
const Size = 8

// Bytes are those of all the numbers, one behind the other.
func Bytes(numbers ...uint64) []byte {
	b := make([]byte, 0, Size*len(numbers))
	for _, n := range numbers {
		for shift := 8 * (Size - 1); shift >= 0; shift -= 8 {
			b = append(b, byte(n>>shift))
		}
	}
	return b
}

// Number is the number that b tells. Of more bytes than Size the last ones
// count: which length there must be, the caller knows, and has to ask.
func Number(b []byte) uint64 {
	n := uint64(0)
	for _, x := range b {
		n = n<<8 | uint64(x)
	}
	return n
}
