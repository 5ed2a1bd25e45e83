package store

// sum is the FNV-1a sum of bytes, of 64 bits. No step leads from two numbers to one,
// so that bytes of which just one is changed never have the same sum.
func sum(bytes []byte) uint64 {
	const start, factor = 14695981039346656037, 1099511628211
	s := uint64(start)
	for _, b := range bytes {
		s = (s ^ uint64(b)) * factor
	}
	return s
}

// appendNumber writes the low bytes of a number behind others, the lowest first.
func appendNumber(bytes []byte, n uint64, size int) []byte {
	for range size {
		bytes = append(bytes, byte(n))
		n >>= 8
	}
	return bytes
}

// fields reads bytes from front to back. Behind the last one it reads noughts:
// that more was written than was read, whoever reads finds out by writing it again.
type fields struct {
	rest []byte
}

func (f *fields) bytes(n int) []byte {
	read := make([]byte, n)
	f.rest = f.rest[copy(read, f.rest):]
	return read
}

func (f *fields) number(size int) uint64 {
	n := uint64(0)
	for i, b := range f.bytes(size) {
		n |= uint64(b) << (8 * i)
	}
	return n
}
