package lex

import (
	"slices"
	"strings"
	"testing"
	"unsafe"

	"cnc/api"
)

// P5.1
func TestName(t *testing.T) {
	if len(promised) != 24 {
		t.Fatalf("the test has %d names", len(promised))
	}
	for _, s := range promised {
		if !Name(s) {
			t.Errorf("Name(%q) = false", s)
		}
	}
	for _, s := range []string{"", "G", "X", "N", "O", "GO", "IFF", "TO", "EN", "E", "A", "AT", "ATA", "ACOS", "ASIN", "EXP", "LN", "THEN", "ELSE", "XO", "WHILE1", "1", "#", "NOT", "RND", "FUPS", "ROUNDS", "WHILES", "\x00", "\xff"} {
		if Name(s) {
			t.Errorf("Name(%q) = true", s)
		}
	}
}

// P5.1: what is only a part of a name, or more than one, or differs from one in a byte, is none.
func TestNoOtherTextIsAName(t *testing.T) {
	check := func(s string) {
		t.Helper()
		if got, want := Name(s), slices.Contains(promised, s); got != want {
			t.Errorf("Name(%q) = %v, want %v", s, got, want)
		}
	}
	for _, s := range promised {
		check(strings.ToLower(s))
		for at := range len(s) + 1 {
			check(s[:at])
			check(s[at:])
			for b := range 256 {
				check(s[:at] + string([]byte{byte(b)}) + s[at:])
				if at < len(s) {
					check(s[:at] + string([]byte{byte(b)}) + s[at+1:])
				}
			}
		}
		for _, other := range promised {
			check(s + other)
			check(s + " " + other)
		}
	}
}

// P5.1
func TestNamesOfUpToFourLetters(t *testing.T) {
	found, want := 0, 0
	for length := range 5 {
		for _, s := range words("ABCDEFGHIJKLMNOPQRSTUVWXYZ", length) {
			if Name(s) {
				found++
			}
		}
	}
	for _, s := range promised {
		if len(s) <= 4 {
			want++
		}
	}
	if found != want {
		t.Errorf("%d texts of up to four letters are names, want %d", found, want)
	}
}

// P5.2
func TestTokens(t *testing.T) {
	gives(t, "")
	gives(t, "G1 X-.5", letter('G', 0), number(one, 1), letter('X', 3), sign("-", 4), number(500000, 5))
	gives(t, "GOTO10", name("GOTO", 0), number(10*one, 4))
	gives(t, "N10G01X-[#1+2*3]",
		letter('N', 0), number(10*one, 1), letter('G', 3), number(one, 4), letter('X', 6), sign("-", 7), sign("[", 8),
		sign("#", 9), number(one, 10), sign("+", 11), number(2*one, 12), sign("*", 13), number(3*one, 14), sign("]", 15))
	gives(t, "WHILE [#1 LT 3] DO 1",
		name("WHILE", 0), sign("[", 6), sign("#", 7), number(one, 8), name("LT", 10), number(3*one, 13), sign("]", 14), name("DO", 16), number(one, 19))
	gives(t, "#100 = ATAN[1]/[-2.5]",
		sign("#", 0), number(100*one, 1), sign("=", 5), name("ATAN", 7), sign("[", 11), number(one, 12), sign("]", 13), sign("/", 14),
		sign("[", 15), sign("-", 16), number(2500000, 17), sign("]", 20))
	gives(t, "/IF[#1EQ0]GOTO#2",
		sign("/", 0), name("IF", 1), sign("[", 3), sign("#", 4), number(one, 5), name("EQ", 6), number(0, 8), sign("]", 9), name("GOTO", 10), sign("#", 14), number(2*one, 15))
	gives(t, "O1", letter('O', 0), number(one, 1))
	gives(t, "M30;the end", letter('M', 0), number(30*one, 1))
}

// P5.2
func TestLetters(t *testing.T) {
	for c := byte('A'); c <= 'Z'; c++ {
		s := string(rune(c))
		gives(t, s, letter(c, 0))
		gives(t, s+s+" "+s, letter(c, 0), letter(c, 1), letter(c, 3))
		gives(t, s+"1", letter(c, 0), number(one, 1))
		gives(t, "1"+s, number(one, 0), letter(c, 1))
	}
}

// P5.2
func TestSigns(t *testing.T) {
	for _, s := range promisedSigns {
		gives(t, s, sign(s, 0))
		gives(t, "X"+s+"2", letter('X', 0), sign(s, 1), number(2*one, 2))
		for _, other := range promisedSigns {
			gives(t, s+other, sign(s, 0), sign(other, 1))
			gives(t, s+" "+other+s, sign(s, 0), sign(other, 2), sign(s, 3))
		}
	}
}

// P5.2
func TestNamesInLines(t *testing.T) {
	for _, s := range promised {
		n := len(s)
		gives(t, s, name(s, 0))
		gives(t, "  "+s+" ", name(s, 2))
		gives(t, s+"10", name(s, 0), number(10*one, n))
		gives(t, s+".5", name(s, 0), number(500000, n))
		gives(t, "5"+s+"5", number(5*one, 0), name(s, 1), number(5*one, 1+n))
		gives(t, "]"+s+"[", sign("]", 0), name(s, 1), sign("[", 1+n))
		gives(t, "(x)"+s+"(x)", name(s, 3))
		gives(t, s+";"+s, name(s, 0))
		gives(t, s+s, name(s, 0), name(s, n))
		// No name begins with B.
		gives(t, "B"+s+"B", letter('B', 0), name(s, 1), letter('B', 1+n))
		for c := byte('A'); c <= 'Z'; c++ {
			gives(t, s+string(rune(c)), name(s, 0), letter(c, n))
		}
	}
}

// P5.2: from the left, and at each letter the longest name or the letter alone.
func TestBeginningsOfNames(t *testing.T) {
	for line, want := range map[string][]api.Token{
		"GO":      {letter('G', 0), letter('O', 1)},
		"GOT":     {letter('G', 0), letter('O', 1), letter('T', 2)},
		"GOTGOTO": {letter('G', 0), letter('O', 1), letter('T', 2), name("GOTO", 3)},
		"GO TO":   {letter('G', 0), letter('O', 1), letter('T', 3), letter('O', 4)},
		"GO()TO":  {letter('G', 0), letter('O', 1), letter('T', 4), letter('O', 5)},
		"GOTOO":   {name("GOTO", 0), letter('O', 4)},
		"GOTOR":   {name("GOTO", 0), letter('R', 4)},
		"GOR":     {letter('G', 0), name("OR", 1)},
		"E":       {letter('E', 0)},
		"EN":      {letter('E', 0), letter('N', 1)},
		"ENE":     {letter('E', 0), name("NE", 1)},
		"EQEND":   {name("EQ", 0), name("END", 2)},
		"ENDO":    {name("END", 0), letter('O', 3)},
		"ENDEQ":   {name("END", 0), name("EQ", 3)},
		"LEND":    {name("LE", 0), letter('N', 2), letter('D', 3)},
		"A":       {letter('A', 0)},
		"AT":      {letter('A', 0), letter('T', 1)},
		"ATA":     {letter('A', 0), letter('T', 1), letter('A', 2)},
		"ATANABS": {name("ATAN", 0), name("ABS", 4)},
		"ATTAN":   {letter('A', 0), letter('T', 1), name("TAN", 2)},
		"AB":      {letter('A', 0), letter('B', 1)},
		"AANDAN":  {letter('A', 0), name("AND", 1), letter('A', 4), letter('N', 5)},
		"DOR":     {name("DO", 0), letter('R', 2)},
		"D":       {letter('D', 0)},
		"XO":      {letter('X', 0), letter('O', 1)},
		"XOXOR":   {letter('X', 0), letter('O', 1), name("XOR", 2)},
		"MODO":    {name("MOD", 0), letter('O', 3)},
		"MO":      {letter('M', 0), letter('O', 1)},
		"MDO":     {letter('M', 0), name("DO", 1)},
		"FI":      {letter('F', 0), letter('I', 1)},
		"FIF":     {letter('F', 0), name("IF", 1)},
		"FU":      {letter('F', 0), letter('U', 1)},
		"FIXFUP":  {name("FIX", 0), name("FUP", 3)},
		"WHIL":    {letter('W', 0), letter('H', 1), letter('I', 2), letter('L', 3)},
		"WHILEQ":  {name("WHILE", 0), letter('Q', 5)},
		"WHILLE":  {letter('W', 0), letter('H', 1), letter('I', 2), letter('L', 3), name("LE", 4)},
		"ROUN":    {letter('R', 0), letter('O', 1), letter('U', 2), letter('N', 3)},
		"ROR":     {letter('R', 0), name("OR", 1)},
		"SQR":     {letter('S', 0), letter('Q', 1), letter('R', 2)},
		"SI":      {letter('S', 0), letter('I', 1)},
		"CO":      {letter('C', 0), letter('O', 1)},
		"COSIN":   {name("COS", 0), letter('I', 3), letter('N', 4)},
		"TA":      {letter('T', 0), letter('A', 1)},
		"TAND":    {name("TAN", 0), letter('D', 3)},
		"NGT":     {letter('N', 0), name("GT", 1)},
		"LGE":     {letter('L', 0), name("GE", 1)},
		"L T":     {letter('L', 0), letter('T', 2)},
		"I1F":     {letter('I', 0), number(one, 1), letter('F', 2)},
	} {
		gives(t, line, want...)
	}
}

// P5.2
func TestNumbersInLines(t *testing.T) {
	for text, want := range map[string]int{
		"0": 0, "1": one, "42": 42 * one, "007": 7 * one, "1.25": 1250000, "12.5": 12500000, "1.": one, ".5": 500000, ".0": 0, "0.": 0,
		"999999999": 999999999 * one, "000000001": one, "123456789.": 123456789 * one, ".000001": 1, ".999999": 999999, "123456789.123456": 123456789123456, "999999999.999999": api.MaxNum - 1,
	} {
		gives(t, text, number(want, 0))
		gives(t, " "+text+"\r", number(want, 1))
		gives(t, "X"+text+"Y", letter('X', 0), number(want, 1), letter('Y', 1+len(text)))
		gives(t, "-"+text+"-", sign("-", 0), number(want, 1), sign("-", 1+len(text)))
		gives(t, text+" "+text, number(want, 0), number(want, 1+len(text)))
		gives(t, text+"()"+text+";"+text, number(want, 0), number(want, 2+len(text)))
	}
	for _, text := range []string{
		".", "..", "1..", "..1", "1..2", "1.2.", ".1.", "1.2.3", "1234567890", "0000000000", "0000000001", "1234567890.", "1234567890.5", "1.1234567", "1.0000000", ".1234567", "999999999.9999999",
		strings.Repeat("1", 70000), strings.Repeat(".", 70000),
	} {
		fails(t, text, 0)
		fails(t, " "+text, 1)
		fails(t, text+" ", 0)
		fails(t, "G1X"+text+"Y1", 3)
		fails(t, "(x)-"+text+"-", 4)
	}
}

// P5.2: numbers with a point at each place, as long as fixed.Parse accepts them and longer.
func TestPointsInNumbers(t *testing.T) {
	for _, digits := range []string{"902718354600718", "000000000000000", "999999999999999"} {
		for length := range len(digits) {
			checkTokens(t, digits[:length])
			for at := range length + 1 {
				s := digits[:at] + "." + digits[at:length]
				checkTokens(t, s)
				checkTokens(t, "X"+s+"]")
				for again := range len(s) + 1 {
					checkTokens(t, s[:again]+"."+s[again:])
				}
			}
		}
	}
}

// P5.2
func TestSeparators(t *testing.T) {
	for _, s := range separators {
		n := len(s)
		gives(t, s)
		gives(t, s+s)
		gives(t, s+"G"+s+"1"+s+"-"+s+"MOD"+s, letter('G', n), number(one, 2*n+1), sign("-", 3*n+2), name("MOD", 4*n+3))
		gives(t, "1"+s+"2", number(one, 0), number(2*one, 1+n))
		gives(t, "1."+s+"5", number(one, 0), number(5*one, 2+n))
		gives(t, "I"+s+"F", letter('I', 0), letter('F', 1+n))
		gives(t, "X"+s+";", letter('X', 0))
		for _, other := range separators {
			gives(t, s+other)
			gives(t, "X"+s+other+"Y", letter('X', 0), letter('Y', 1+n+len(other)))
		}
	}
}

// P5.2
func TestComments(t *testing.T) {
	for _, line := range []string{
		"()", "(x)", "( )", "(()", "((((()", "(;)", ";", ";;", ";x", ";(", ";)", ";()", ";(x", ";x)", "(x);", "(x);(", "()()", "(a)(b) (c)", "(1..2)", ";1..2", "(\n)", ";\n", ";\nG1", "(\x00\x80\xff)", ";\x00\x80\xff", "(é)", ";é", "(Lower)", ";lower",
	} {
		gives(t, line)
	}
	gives(t, "(a;b) G1 ; rest (", letter('G', 6), number(one, 7))
	gives(t, "G1(a)X2", letter('G', 0), number(one, 1), letter('X', 5), number(2*one, 6))
	gives(t, "G1;(a)X2", letter('G', 0), number(one, 1))
	gives(t, "G(1)1(G)", letter('G', 0), number(one, 4))
	gives(t, "(a(b)G", letter('G', 5))
	gives(t, "(a)(b)G", letter('G', 6))
	gives(t, "(a;b)X(c;d)", letter('X', 5))
	gives(t, "X;a;Y", letter('X', 0))
	gives(t, "X ; (unclosed", letter('X', 0))
	gives(t, "X ; unopened)", letter('X', 0))
}

// P5.2
func TestErrorsOfComments(t *testing.T) {
	for line, at := range map[string]int{
		"(": 0, "(x": 0, "((": 0, "( ; )(": 5, "G1 (a": 3, "G1 (a;b": 3, "(a)(b": 3, "(a) (b": 4, "() ()  (": 7, "X(\n": 1, "(;x": 0, "1(": 1, "MOD(x": 3, "-(": 1,
		")": 0, "G1)": 2, "())": 2, "(a))": 3, "(a(b))": 5, "(a) )": 4, ")(": 0, "G1 ) ;": 3, ");": 0, "\t)": 1, "X)Y": 1,
	} {
		fails(t, line, at)
	}
}

// P5.2
func TestEveryByte(t *testing.T) {
	for b := range 256 {
		s := string([]byte{byte(b)})
		switch {
		case b == 9 || b == 13 || b == 32:
			gives(t, s)
			gives(t, "G1"+s, letter('G', 0), number(one, 1))
			gives(t, s+"G"+s+"1", letter('G', 1), number(one, 3))
		case b == ';':
			gives(t, s)
			gives(t, "G1"+s+"\n", letter('G', 0), number(one, 1))
		case b >= 'A' && b <= 'Z':
			gives(t, s, letter(byte(b), 0))
		case b >= '0' && b <= '9':
			gives(t, s, number((b-'0')*one, 0))
		case slices.Contains(promisedSigns, s):
			gives(t, s, sign(s, 0))
		default:
			fails(t, s, 0)
			fails(t, "GX"+s, 2)
			fails(t, s+"G1", 0)
			fails(t, "(x) "+s+" G1", 4)
			fails(t, "MOD"+s+"MOD", 3)
			fails(t, "G 1 "+s+s, 4)
			if b != '.' {
				fails(t, "1"+s+"5", 1)
			}
		}
		if b != ')' {
			gives(t, "X("+s+")Y", letter('X', 0), letter('Y', 4))
		}
		gives(t, "X;"+s+"Y", letter('X', 0))
	}
}

// P5.2: lower case letters begin no token, not even those of a name.
func TestLowerCase(t *testing.T) {
	for c := byte('a'); c <= 'z'; c++ {
		fails(t, string(rune(c)), 0)
		fails(t, "G1 "+string(rune(c))+"1", 3)
	}
	for _, s := range promised {
		fails(t, strings.ToLower(s), 0)
		fails(t, s+" "+strings.ToLower(s), len(s)+1)
	}
	fails(t, "GOTo", 3)
	fails(t, "gOTO", 0)
	fails(t, "If", 1)
}

// P5.2: the first of several errors, whatever stands before and behind it.
func TestFirstErrorDecides(t *testing.T) {
	for _, s := range refused {
		fails(t, " "+s, 1)
		fails(t, "(x) MOD"+s, 7)
		gives(t, "G;"+s, letter('G', 0))
		for _, other := range refused {
			line := s + " " + other
			if s[0] == '(' && other == ")" {
				gives(t, line)
				continue
			}
			fails(t, line, 0)
			fails(t, "G1 "+line+" X", 3)
			fails(t, line+";"+line, 0)
		}
	}
}

// P5.2: each kind of token at the beginning and at the end of a line, and between all others.
func TestNeighbors(t *testing.T) {
	between := append([]string{""}, separators...)
	for _, a := range pieces() {
		checkTokens(t, a)
		for _, b := range pieces() {
			for _, s := range between {
				checkTokens(t, a+s+b)
			}
		}
		for _, s := range refused {
			checkTokens(t, a+s)
			checkTokens(t, s+a)
		}
	}
}

// P5.2
func TestAllShortLines(t *testing.T) {
	for length := range 6 {
		for _, line := range words("1.GOT();- ", length) {
			checkTokens(t, line)
		}
	}
	for length := range 7 {
		for _, line := range words("ATNDOR", length) {
			checkTokens(t, line)
		}
	}
}

// P5.2
func TestLongerLines(t *testing.T) {
	for _, line := range samples(20000, slices.Concat(pieces(), separators)) {
		checkTokens(t, line)
	}
	for _, line := range samples(20000, slices.Concat(pieces(), pieces(), separators, refused, []string{";", "(", ")"})) {
		checkTokens(t, line)
	}
}

// R10: this layer has no limit of the length of a line.
func TestLongLines(t *testing.T) {
	const count = 4 * api.MaxText
	tokens, at, err := Tokens(strings.Repeat("G1 ", count))
	if len(tokens) != 2*count || at != 3*count || err != api.OK {
		t.Fatalf("%d tokens, %d, %d", len(tokens), at, err)
	}
	for i := range count {
		if tokens[2*i] != letter('G', 3*i) || tokens[2*i+1] != number(one, 3*i+1) {
			t.Fatalf("tokens of word %d: %v, %v", i, tokens[2*i], tokens[2*i+1])
		}
	}
	gives(t, strings.Repeat(" ", count)+"X", letter('X', count))
	gives(t, strings.Repeat("()", count)+"X", letter('X', 2*count))
	gives(t, strings.Repeat("(", count)+")X", letter('X', count+1))
	fails(t, strings.Repeat("(", count), 0)
	fails(t, strings.Repeat("0", count), 0)
	fails(t, strings.Repeat("X", count)+"x", count)
}

// R2, R3: each call returns new tokens, and none of them keeps a part of the line.
func TestResultsAreNew(t *testing.T) {
	line := strings.Join([]string{"IF", "[", "X", "1", "GOTO", "+"}, " ")
	want, _, _ := Tokens(line)
	got, _, _ := Tokens(line)
	clear(got)
	again, _, _ := Tokens(line)
	if !slices.Equal(want, again) {
		t.Errorf("Tokens(%q) = %v, but before %v", line, again, want)
	}
	start := uintptr(unsafe.Pointer(unsafe.StringData(line)))
	for _, token := range want {
		text := uintptr(unsafe.Pointer(unsafe.StringData(token.Text)))
		if token.Text != "" && text >= start && text < start+uintptr(len(line)) {
			t.Errorf("the text of %v is a part of the line", token)
		}
	}
}
