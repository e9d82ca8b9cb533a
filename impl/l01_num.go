package impl

import (
	"strconv"
	"strings"
)

const (
	maxNumber = 999999
	maxInt    = 999999999999
)

func FormatInt(n int) string { return strconv.Itoa(n) }

func ParseNumber(s string) (n int, ok bool) {
	defer func() {
		if recover() != nil {
			n, ok = 0, false
		}
	}()
	return mustParse(s, 0, maxNumber), true
}

func ParseInt(s string) (n int, ok bool) {
	defer func() {
		if recover() != nil {
			n, ok = 0, false
		}
	}()
	return mustParse(s, -maxInt, maxInt), true
}

// mustParse panics if s is malformed, so that only the exported functions have to turn that into a result.
func mustParse(s string, low, high int) int {
	n, err := strconv.Atoi(s)
	// Atoi also accepts "+5", "007" and "-0", which no integer is formatted as.
	if err != nil || FormatInt(n) != s || n < low || n > high {
		panic("malformed integer")
	}
	return n
}

func SplitByte(s string, by byte) []string {
	// string(by) would encode a byte above 127 as the two bytes of a rune.
	return strings.Split(s, string([]byte{by}))
}

func Join(list []string, by string) string { return strings.Join(list, by) }
