// Package words tells numbers as bytes. The highest byte comes first, as in
// elements, points, transactions and blocks; in what begins with Low the
// lowest does, as in hashes and ciphers.
package words

// Size is how many bytes a number of 64 bits has.
const Size = 8

// Bytes are those of all the numbers, one behind the other.
func Bytes(numbers ...uint64) []byte {
	b := make([]byte, 0, Size*len(numbers))
	for _, n := range numbers {
		for shift := 8 * (Size - 1); shift >= 0; shift -= 8 {
			b = append(b, byte(n>>shift))
		}
	}
	return b
}

// Number is the number that b tells. Of more bytes than Size the last ones
// count: which length there must be, the caller knows, and has to ask.
func Number(b []byte) uint64 {
	n := uint64(0)
	for _, x := range b {
		n = n<<8 | uint64(x)
	}
	return n
}

// LowBytes are those of all the words of 32 bits, one behind the other.
func LowBytes(numbers ...uint32) []byte {
	b := make([]byte, 0, 4*len(numbers))
	for _, n := range numbers {
		b = append(b, byte(n), byte(n>>8), byte(n>>16), byte(n>>24))
	}
	return b
}

// LowNumber is the number that b tells. Of more bytes than Size the first ones
// count, as the lower ones do in Number.
func LowNumber(b []byte) uint64 {
	n := uint64(0)
	for i, x := range b {
		n |= uint64(x) << (8 * i)
	}
	return n
}
