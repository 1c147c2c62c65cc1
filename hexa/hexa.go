// Package hexa is layer 1: bytes and numbers as digits. See shared/doc/01-hexa.md.
package hexa

import "manciple/api"

const (
	digits = "0123456789abcdef"

	// No number above top is read, whatever the caller's own limit is.
	top uint64 = 1 << 62

	// So many decimal digits always fit into 64 bits, and a number of more
	// of them, the first one not 0, is above top; no int has more.
	maxDecimals = 19

	// So many digits of base 16 fill 64 bits.
	maxHexdigits = 16
)

// Hex: bytes as digits of base 16, two a byte, the high one first.
func Hex(s string) string {
	out := make([]byte, 0, 2*len(s))
	for i := 0; i < len(s); i++ {
		out = append(out, digits[s[i]>>4], digits[s[i]&15])
	}
	return string(out)
}

// Unhex: the bytes of which s is Hex; ErrForm.
func Unhex(s string) (string, api.Errno) {
	if len(s)%2 != 0 {
		return "", api.ErrForm
	}
	out := make([]byte, 0, len(s)/2)
	for i := 0; i < len(s); i += 2 {
		high, okHigh := smallDigit(s[i])
		low, okLow := smallDigit(s[i+1])
		if !okHigh || !okLow {
			return "", api.ErrForm
		}
		out = append(out, high<<4|low)
	}
	return string(out), api.OK
}

// Dec: a number in decimal.
func Dec(n int) string {
	if n >= 0 {
		return decimals(uint64(n), "")
	}
	// The least int has no counterpart as an int: turning the sign is left
	// to uint64, which wraps to the right number.
	return decimals(-uint64(n), "-")
}

// Undec: a number of decimal digits, from 0 to a limit; ErrForm, ErrRange.
func Undec(s string, most int) (int, api.Errno) {
	if !isDecimal(s) {
		return 0, api.ErrForm
	}
	if len(s) > maxDecimals {
		return 0, api.ErrRange
	}
	var n uint64
	for i := 0; i < len(s); i++ {
		n = n*10 + uint64(s[i]-'0')
	}
	return atMost(n, most)
}

// Hexnum: a number from 0 on in base 16; one below 0 as 0.
func Hexnum(n int) string {
	if n <= 0 {
		return "0"
	}
	var room [maxHexdigits]byte
	at := len(room)
	for rest := uint64(n); rest > 0; rest >>= 4 {
		at--
		room[at] = digits[rest&15]
	}
	return string(room[at:])
}

// Unhexnum: a number of digits of base 16, from 0 to a limit; ErrForm, ErrRange.
func Unhexnum(s string, most int) (int, api.Errno) {
	if len(s) == 0 || len(s) > maxHexdigits {
		return 0, api.ErrForm
	}
	var n uint64
	for i := 0; i < len(s); i++ {
		d, ok := anyDigit(s[i])
		if !ok {
			return 0, api.ErrForm
		}
		n = n<<4 | uint64(d)
	}
	return atMost(n, most)
}

func smallDigit(c byte) (byte, bool) {
	switch {
	case c >= '0' && c <= '9':
		return c - '0', true
	case c >= 'a' && c <= 'f':
		return c - 'a' + 10, true
	}
	return 0, false
}

func anyDigit(c byte) (byte, bool) {
	if c >= 'A' && c <= 'F' {
		return c - 'A' + 10, true
	}
	return smallDigit(c)
}

func decimals(n uint64, sign string) string {
	var room [maxDecimals]byte
	at := len(room) - 1
	room[at] = digits[n%10]
	for rest := n / 10; rest > 0; rest /= 10 {
		at--
		room[at] = digits[rest%10]
	}
	return sign + string(room[at:])
}

func isDecimal(s string) bool {
	if s == "" || len(s) > 1 && s[0] == '0' {
		return false
	}
	for i := 0; i < len(s); i++ {
		if s[i] < '0' || s[i] > '9' {
			return false
		}
	}
	return true
}

func atMost(n uint64, most int) (int, api.Errno) {
	// A limit below 0 must be told ahead: as uint64 it would be a vast one.
	if most < 0 || n > uint64(most) || n > top {
		return 0, api.ErrRange
	}
	return int(n), api.OK
}
