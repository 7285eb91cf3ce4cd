// Package numbers writes numbers as bytes, the highest byte first, so that the bytes of equally many stand in the numbers' order.
package numbers

import "chert/api"

// Valid: is each of them from 0 to MaxNumber?
func Valid(all ...int) bool {
	for _, n := range all {
		if n < 0 || n > api.MaxNumber {
			return false
		}
	}
	return true
}

// Join: the numbers one behind the other, each in size bytes; a negative one in two's complement.
func Join(size int, all ...int) string {
	var text []byte
	for _, n := range all {
		for i := size - 1; i >= 0; i-- {
			text = append(text, byte(n>>(8*i)))
		}
	}
	return string(text)
}

// Split: the numbers that stand one behind the other in a text, each in size bytes.
func Split(size int, text string) []int {
	all := make([]int, len(text)/size)
	for i := range all {
		all[i] = Of(text[i*size : (i+1)*size])
	}
	return all
}

// Of: the number that a whole text of at most eight bytes stands for; with the highest bit of eight bytes it is a negative one.
func Of(text string) int {
	n := 0
	for i := range len(text) {
		n = n<<8 | int(text[i])
	}
	return n
}
