package fixed

import (
	"strconv"

	"cnc/api"
)

// places is the number of digits behind the point that a millionth needs.
const places = 6

// Parse returns the number that s describes.
func Parse(s string) (int, api.Errno) {
	n, whole := digits(0, s, 0, api.MaxDigits)
	end, fraction := whole, 0
	if whole < len(s) && s[whole] == '.' {
		n, end = digits(n, s, whole+1, places)
		fraction = end - (whole + 1)
	}
	// A digit too many has not been read and is left, like any other byte that does not belong to the form.
	if end < len(s) || whole+fraction == 0 {
		return 0, api.ErrSyntax
	}
	for range places - fraction {
		n *= 10
	}
	return n, api.OK
}

// digits appends the digits of s from the offset at on, at most count of them, to those of n. It returns the new n and the offset behind the digits.
func digits(n int, s string, at, count int) (int, int) {
	end := min(at+count, len(s))
	for at < end && s[at] >= '0' && s[at] <= '9' {
		n = n*10 + int(s[at]-'0')
		at++
	}
	return n, at
}

// Format returns the number n in decimal, or the empty string if it is not valid.
func Format(n int) string {
	if !Valid(n) {
		return ""
	}
	var text []byte
	if n < 0 {
		text = append(text, '-')
		n = -n
	}
	text = strconv.AppendInt(text, int64(n/api.Million), 10)
	return string(appendFraction(text, n%api.Million))
}

// appendFraction appends a point and the digits of a fraction in millionths without trailing zeros, or nothing if it is 0.
func appendFraction(text []byte, fraction int) []byte {
	if fraction == 0 {
		return text
	}
	text = append(text, '.')
	for unit := api.Million / 10; fraction > 0; unit /= 10 {
		text = append(text, byte('0'+fraction/unit))
		fraction %= unit
	}
	return text
}
