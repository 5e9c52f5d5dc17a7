// Package sum is layer 1: a check sum by a table.
package sum

const (
	entries = 256
	polynom = 0xEDB88320
)

// Table tells the table's 256 numbers.
func Table() []int {
	t := make([]int, entries)
	for i := range t {
		t[i] = int(entry(uint32(i)))
	}
	return t
}

func entry(n uint32) uint32 {
	for range 8 {
		odd := n&1 == 1
		n >>= 1
		if odd {
			n ^= polynom
		}
	}
	return n
}

// Sum tells the sum of s by the table t; false, if t is no table.
func Sum(t []int, s string) (int, bool) {
	if len(t) != entries {
		return 0, false
	}
	state := ^uint32(0)
	for i := range len(s) {
		// The conversion keeps the lowest 32 bits, of an entry below 0 as well.
		state = uint32(t[byte(state)^s[i]]) ^ state>>8
	}
	return int(^state), true
}
