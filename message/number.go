package message

// number is what bytes, four at most, are as a number.
func number(bytes string) uint32 {
	var n uint32
	for i := range len(bytes) {
		n = n<<8 | uint32(bytes[i])
	}
	return n
}

func two(n int) string {
	return string([]byte{byte(n >> 8), byte(n)})
}

func four(n uint32) string {
	return string([]byte{byte(n >> 24), byte(n >> 16), byte(n >> 8), byte(n)})
}
