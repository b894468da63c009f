package fixed

import (
	"math/big"
	"regexp"
	"strings"
	"testing"

	"cnc/api"
)

// form is the form of a number, written another time.
var form = regexp.MustCompile(`^(?:[0-9]{1,9}(?:\.[0-9]{0,6})?|\.[0-9]{1,6})$`)

// checkParse compares Parse with the form and with math/big.
func checkParse(t *testing.T, s string) {
	t.Helper()
	n, err := Parse(s)
	if !form.MatchString(s) {
		if n != 0 || err != api.ErrSyntax {
			t.Errorf("Parse(%q) = %d, %d, want 0, %d", s, n, err, api.ErrSyntax)
		}
		return
	}
	// A Rat wants a digit on either side of a point.
	whole, fraction, _ := strings.Cut(s, ".")
	want, ok := new(big.Rat).SetString("0" + whole + "." + fraction + "0")
	if !ok {
		t.Fatalf("math/big does not read %q", s)
	}
	want.Mul(want, big.NewRat(one, 1))
	if err != api.OK || want.Cmp(big.NewRat(int64(n), 1)) != 0 {
		t.Errorf("Parse(%q) = %d, %d, want %s, %d", s, n, err, want.RatString(), api.OK)
	}
}

// P2.2
func TestParse(t *testing.T) {
	for s, want := range map[string]int{
		"0": 0, "1": one, "9": 9 * one, "007": 7 * one, "12": 12 * one, "000000001": one, "999999999": 999999999 * one,
		"1.25": 1250000, "1.": one, "0.": 0, ".0": 0, ".5": 500000, "0.5": 500000, "00.50": 500000, ".000001": 1, ".999999": 999999, ".100000": 100000, "1.02": 1020000,
		"123456789.": 123456789 * one, "123456789.123456": 123456789123456, "999999999.999999": api.MaxNum - 1, "000000000.000000": 0, "1.000001": one + 1,
	} {
		if n, err := Parse(s); n != want || err != api.OK {
			t.Errorf("Parse(%q) = %d, %d, want %d, %d", s, n, err, want, api.OK)
		}
	}
}

// P2.2
func TestParseRefuses(t *testing.T) {
	for _, s := range []string{
		"", ".", "..", "1..", "..1", "1..2", "1.2.", ".1.", "1.2.3", "-1", "+1", "-", "+", "-.5", "1-", "1+1", " 1", "1 ", "1 2", "1. 5", "1 .5", " ", "\t1", "1\n", "\x001", "1\x00",
		"a", "x1", "1x", "1e3", "1E3", "0x10", "1_000", "1,5", "1/2", "1:2", "#1", "Inf", "NaN", "\xff", "1\xb2", "\u0661", "1\u00b2", "\uff11",
		"1234567890", "0000000001", "0000000000", "1234567890.", "0000000001.5", "1000000000", "1.1234567", ".1234567", "1.0000000", ".0000000", "123456789.1234567", "1234567890.123456",
		strings.Repeat("0", 1000), strings.Repeat("9", 1<<16), "1." + strings.Repeat("0", 1000), strings.Repeat(".", 1000), "18446744073709551617",
	} {
		if n, err := Parse(s); n != 0 || err != api.ErrSyntax {
			t.Errorf("Parse(%q) = %d, %d, want 0, %d", s, n, err, api.ErrSyntax)
		}
	}
}

// P2.2
func TestParseCountsDigits(t *testing.T) {
	const digits = "902718354600"
	for before := range api.MaxDigits + 3 {
		checkParse(t, digits[:before])
		for after := range 9 {
			checkParse(t, digits[:before]+"."+digits[:after])
			checkParse(t, strings.Repeat("0", before)+"."+strings.Repeat("0", after))
			checkParse(t, strings.Repeat("9", before)+"."+strings.Repeat("9", after))
		}
	}
}

// P2.2
func TestParseReadsEveryByte(t *testing.T) {
	for _, s := range []string{"", "1", "42", "1.25", "1.", ".5", "123456789", "12345678", "123456789.123456", "123456789.12345"} {
		for at := range len(s) + 1 {
			for b := range 256 {
				checkParse(t, s[:at]+string([]byte{byte(b)})+s[at:])
			}
		}
	}
}

// P2.2
func TestParseOfAllShortStrings(t *testing.T) {
	const bytes = "019.- "
	list := []string{""}
	for range 5 {
		var longer []string
		for _, s := range list {
			for i := range len(bytes) {
				longer = append(longer, s+bytes[i:i+1])
			}
		}
		for _, s := range longer {
			checkParse(t, s)
		}
		list = longer
	}
}

// P2.3
func TestFormat(t *testing.T) {
	for n, want := range map[int]string{
		0: "0", 1: "0.000001", -1: "-0.000001", 10: "0.00001", 500000: "0.5", -500000: "-0.5", 999999: "0.999999", 100000: "0.1", 10000: "0.01", 100001: "0.100001", 101000: "0.101",
		one: "1", -one: "-1", one + 1: "1.000001", 1250000: "1.25", -1250000: "-1.25", 12340000: "12.34", 10 * one: "10", 100 * one: "100", 1000500000: "1000.5", 9 * one: "9", 9999999: "9.999999",
		api.MaxNum: "1000000000", -api.MaxNum: "-1000000000", api.MaxNum - 1: "999999999.999999", 1 - api.MaxNum: "-999999999.999999",
	} {
		if s := Format(n); s != want {
			t.Errorf("Format(%d) = %q, want %q", n, s, want)
		}
	}
	for _, n := range beyond {
		if s := Format(n); s != "" {
			t.Errorf("Format(%d) = %q, want an empty string", n, s)
		}
	}
}

// P2.3
func TestFormatIsExact(t *testing.T) {
	for _, n := range singles() {
		want := strings.TrimRight(big.NewRat(int64(n), one).FloatString(6), "0")
		want = strings.TrimSuffix(want, ".")
		if s := Format(n); s != want {
			t.Errorf("Format(%d) = %q, want %q", n, s, want)
		}
	}
}

// Consequences: Parse reads what Format writes.
func TestParseOfFormat(t *testing.T) {
	check := func(n int) {
		if got, err := Parse(Format(n)); got != n || err != api.OK {
			t.Errorf("Parse(Format(%d)) = %d, %d", n, got, err)
		}
	}
	for _, n := range singles() {
		if n >= 0 && n < api.MaxNum {
			check(n)
		}
	}
	for n := range 20000 {
		check(n)
		check(one - n)
		check(api.MaxNum - 1 - n)
	}
}
