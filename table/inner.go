package table

import (
	"math"
	"strings"
)

// Two bytes 0 end a key. A byte 0 of its own has a byte 255 behind it, so that a key that goes on stands behind the one
// that ends.
const (
	zero    = "\x00"
	ownZero = "\x00\xff"
	keyEnd  = "\x00\x00"
)

const seqSize = 8

// Inner is an entry's key in a block, Outer what it says.
func Inner(key string, seq int) string {
	// Counted down from the greatest int, since of the entries of a key the newest one stands first.
	return strings.ReplaceAll(key, zero, ownZero) + keyEnd + big(math.MaxInt-seq)
}

func Outer(s string) (string, int, bool) {
	border := len(s) - len(keyEnd) - seqSize
	if border < 0 {
		return "", 0, false
	}
	key := strings.ReplaceAll(s[:border], ownZero, zero)
	seq := math.MaxInt - sum(s[len(s)-seqSize:])
	// What stands ahead of the number may be no end, and a byte 0 of the key may lack its byte 255.
	if seq < 0 || seq > maxSeq || Inner(key, seq) != s {
		return "", 0, false
	}
	return key, seq, true
}

// big is a number in eight bytes, sum the number of such bytes, the most significant one first.
func big(n int) string {
	var b [seqSize]byte
	for i := range b {
		b[seqSize-1-i] = byte(n >> (8 * i))
	}
	return string(b[:])
}

func sum(s string) int {
	n := 0
	for i := range len(s) {
		n = n<<8 + int(s[i])
	}
	return n
}
