package syntax_test

import (
	"slices"
	"strconv"
	"strings"
	"testing"

	"cnc/api"
	"cnc/lex"
)

// symbols are the texts of tokens: each name and sign, letters, and numbers that are a loop and a count, a count only, or neither.
var symbols = strings.Fields("IF GOTO WHILE DO END EQ NE GT GE LT LE AND OR XOR MOD SIN COS TAN ATAN SQRT ABS ROUND FIX FUP + - * / = # [ ] N O G X 1 3 4 99999 100000 0 1.5")

// P6.1: each kind of block, with and without a slash and a label.
func TestKindsOfBlocks(t *testing.T) {
	contents := map[string]api.Block{
		"":                     {},
		"G1":                   {Words: []api.Word{word('G', num(one))}},
		"G1X-.5Y#2Z[3]":        {Words: []api.Word{word('G', num(one)), word('X', branch(api.OpNeg, num(500000))), word('Y', branch(api.OpVar, num(2*one))), word('Z', num(3*one))}},
		"X1X2X1":               {Words: []api.Word{word('X', num(one)), word('X', num(2*one)), word('X', num(one))}},
		"#1=2":                 {Kind: api.BlockSet, Left: num(one), X: num(2 * one)},
		"##1=#2":               {Kind: api.BlockSet, Left: branch(api.OpVar, num(one)), X: branch(api.OpVar, num(2*one))},
		"#[1+2]=[3]":           {Kind: api.BlockSet, Left: leaves(api.OpAdd), X: num(3 * one)},
		"#0=0":                 {Kind: api.BlockSet},
		"GOTO10":               {Kind: api.BlockGoto, X: num(10 * one)},
		"GOTO-#1":              {Kind: api.BlockGoto, X: branch(api.OpNeg, branch(api.OpVar, num(one)))},
		"GOTO+[1+2]":           {Kind: api.BlockGoto, X: leaves(api.OpAdd)},
		"GOTO0":                {Kind: api.BlockGoto},
		"IF[1EQ2]GOTO5":        {Kind: api.BlockIf, X: leaves(api.OpEQ), Left: num(5 * one)},
		"IF [1] GOTO -[1 + 2]": {Kind: api.BlockIf, X: num(one), Left: branch(api.OpNeg, leaves(api.OpAdd))},
		"WHILE[1LT2]DO1":       {Kind: api.BlockWhile, X: leaves(api.OpLT), N: 1},
		"WHILE [#3] DO 3":      {Kind: api.BlockWhile, X: branch(api.OpVar, num(3*one)), N: 3},
		"END2":                 {Kind: api.BlockEnd, N: 2},
		"O1":                   {Kind: api.BlockProgram, N: 1},
		"O99999":               {Kind: api.BlockProgram, N: 99999},
	}
	for text, want := range contents {
		for prefix, label := range map[string]int{"": 0, "N1": 1, "N 25": 25, "N99999": 99999, "N00010.00": 10} {
			want.Label, want.Skip = label, false
			gives(t, prefix+" "+text, want)
			checkLine(t, prefix+" "+text)
			gives(t, prefix+text, want)
			want.Skip = true
			gives(t, "/"+prefix+text, want)
			gives(t, " / "+prefix+" "+text+" ", want)
			gives(t, "(x)/(1.1.1)"+prefix+"\t"+text+"\r;]", want)
		}
	}
}

// P6.1: a letter of a word is neither N nor O.
func TestLettersOfWords(t *testing.T) {
	for c := byte('A'); c <= 'Z'; c++ {
		s := string(rune(c))
		want := api.Block{Words: []api.Word{word(int(c), num(7*one))}}
		switch c {
		case 'N':
			gives(t, "N7", api.Block{Label: 7})
			fails(t, "N7 N7", 3, api.ErrSyntax)
			fails(t, "X1 N7", 3, api.ErrSyntax)
			fails(t, "N-7", 1, api.ErrSyntax)
		case 'O':
			gives(t, "O7", api.Block{Kind: api.BlockProgram, N: 7})
			fails(t, "O7 O7", 3, api.ErrSyntax)
			fails(t, "X1 O7", 3, api.ErrSyntax)
			fails(t, "O-7", 1, api.ErrSyntax)
		default:
			gives(t, s+"7", want)
			want.Words = append(want.Words, word('Z', num(0)), word(int(c), num(one)))
			gives(t, s+"7 Z0 "+s+"1", want)
			fails(t, s, 1, api.ErrSyntax)
			fails(t, s+s, 1, api.ErrSyntax)
		}
	}
}

// P6.1: counts and loops at both ends of their ranges, one beyond, and with a fraction.
func TestCountsAndLoops(t *testing.T) {
	for _, x := range []struct {
		text string
		n    int
	}{{"1", 1}, {"01", 1}, {"1.", 1}, {"1.0", 1}, {"000000002.000000", 2}, {"3", 3}, {"4", 4}, {"10", 10}, {"99999", 99999}, {"99999.", 99999}, {"99998", 99998}} {
		gives(t, "N"+x.text, api.Block{Label: x.n})
		gives(t, "/N"+x.text+"O"+x.text, api.Block{Kind: api.BlockProgram, Skip: true, Label: x.n, N: x.n})
		gives(t, "O"+x.text, api.Block{Kind: api.BlockProgram, N: x.n})
		if x.n <= 3 {
			gives(t, "END"+x.text, api.Block{Kind: api.BlockEnd, N: x.n})
			gives(t, "WHILE[0]DO"+x.text, api.Block{Kind: api.BlockWhile, N: x.n})
		} else {
			fails(t, "END"+x.text, 3, api.ErrSyntax)
			fails(t, "WHILE[0]DO"+x.text, 10, api.ErrSyntax)
		}
	}
	for _, text := range []string{"0", "0.0", ".0", "100000", "100001", "999999999", "1.5", "0.5", ".000001", "2.999999", "1.000001", "99999.5", "0.999999", "-1", "+1", "#1", "[1]", "-0", "X", "[", "=", "IF", "SIN[1]"} {
		fails(t, "N"+text, 1, api.ErrSyntax)
		fails(t, "/ N "+text, 4, api.ErrSyntax)
		fails(t, "O"+text, 1, api.ErrSyntax)
		fails(t, "N5 O"+text, 4, api.ErrSyntax)
		fails(t, "END "+text, 4, api.ErrSyntax)
		fails(t, "WHILE[0]DO"+text, 10, api.ErrSyntax)
		fails(t, "WHILE[0]DO"+text+"]", 10, api.ErrSyntax)
	}
	fails(t, "END 4", 4, api.ErrSyntax)
	fails(t, "WHILE[0]DO 4", 11, api.ErrSyntax)
}

// P6.1: values have at most one sign, and no function or operator without brackets.
func TestValues(t *testing.T) {
	variable := branch(api.OpVar, num(one))
	for text, x := range map[string]api.Expr{
		"7.5": num(7500000), "+7.5": num(7500000), "-7.5": branch(api.OpNeg, num(7500000)), "0": num(0), "-0": branch(api.OpNeg, num(0)), "999999999.999999": num(api.MaxNum - 1),
		"#1": variable, "+#1": variable, "-#1": branch(api.OpNeg, variable), "##1": branch(api.OpVar, variable), "-##1": branch(api.OpNeg, branch(api.OpVar, variable)),
		"#[1]": variable, "#[-1]": branch(api.OpVar, branch(api.OpNeg, num(one))), "#[1+2]": branch(api.OpVar, leaves(api.OpAdd)), "##[1*2]": branch(api.OpVar, branch(api.OpVar, leaves(api.OpMul))),
		"[1+2]": leaves(api.OpAdd), "+[1+2]": leaves(api.OpAdd), "-[1+2]": branch(api.OpNeg, leaves(api.OpAdd)), "[-1]": branch(api.OpNeg, num(one)), "-[-1]": branch(api.OpNeg, branch(api.OpNeg, num(one))), "[[#1]]": variable, "[SIN[1]]": leaves(api.OpSin), "[ATAN[1]/[2]]": leaves(api.OpAtan),
	} {
		gives(t, "X"+text, api.Block{Words: []api.Word{word('X', x)}})
		gives(t, "Z"+text+"Y"+text, api.Block{Words: []api.Word{word('Z', x), word('Y', x)}})
		gives(t, "GOTO"+text, api.Block{Kind: api.BlockGoto, X: x})
		gives(t, "IF[0]GOTO"+text, api.Block{Kind: api.BlockIf, Left: x})
	}
	for _, text := range []string{"--1", "-+1", "+-1", "++1"} {
		fails(t, "X"+text, 2, api.ErrSyntax)
		fails(t, "GOTO"+text, 5, api.ErrSyntax)
		fails(t, "IF[0]GOTO"+text, 10, api.ErrSyntax)
	}
	for _, text := range []string{"SIN[1]", "ATAN[1]/[2]", "MOD", "*1", "/", "=1", "]", "X1", "IF", "N1"} {
		fails(t, "X"+text, 1, api.ErrSyntax)
		fails(t, "X-"+text, 2, api.ErrSyntax)
		fails(t, "X#"+text, 2, api.ErrSyntax)
		fails(t, "GOTO"+text, 4, api.ErrSyntax)
		fails(t, "IF[0]GOTO"+text, 9, api.ErrSyntax)
		fails(t, "#"+text+"=1", 1, api.ErrSyntax)
	}
	for _, text := range []string{"+1", "-1", "*1", "/1", "MOD1", "EQ1", "AND1", "OR1", "=1", "]", "[", "#1", "1.5", "SIN[1]", "GOTO1", "N1", "O1"} {
		fails(t, "X1 "+text, 3, api.ErrSyntax)
		fails(t, "X[1] "+text, 5, api.ErrSyntax)
		fails(t, "X-#1 "+text, 5, api.ErrSyntax)
		fails(t, "GOTO1 "+text, 6, api.ErrSyntax)
		fails(t, "IF[0]GOTO1 "+text, 11, api.ErrSyntax)
	}
	fails(t, "X#+1", 2, api.ErrSyntax)
	fails(t, "X#-1", 2, api.ErrSyntax)
	fails(t, "#-1=1", 1, api.ErrSyntax)
	fails(t, "GOTO1 X1", 6, api.ErrSyntax)
	fails(t, "IF[0]GOTO1 X1", 11, api.ErrSyntax)
}

// P6.1: each name and sign has its operator.
func TestOperators(t *testing.T) {
	for text, op := range map[string]int{"+": 3, "-": 4, "*": 5, "/": 6, "MOD": 7, "EQ": 17, "NE": 18, "GT": 19, "GE": 20, "LT": 21, "LE": 22, "AND": 23, "OR": 24, "XOR": 25} {
		reads(t, "1"+text+"2", branch(op, num(one), num(2*one)))
		reads(t, "[1] "+text+" [2]", branch(op, num(one), num(2*one)))
		reads(t, "#1"+text+"-#2", branch(op, branch(1, num(one)), branch(2, branch(1, num(2*one)))))
		reads(t, "SIN[1]"+text+"FUP[2]", branch(op, leaves(8), branch(16, num(2*one))))
		reads(t, "ATAN[1]/[2]"+text+"ATAN[1]/[2]", branch(op, leaves(11), leaves(11)))
	}
	for text, op := range map[string]int{"SIN": 8, "COS": 9, "TAN": 10, "SQRT": 12, "ABS": 13, "ROUND": 14, "FIX": 15, "FUP": 16} {
		reads(t, text+"[1]", branch(op, num(one)))
		reads(t, text+"[1+2]", branch(op, leaves(3)))
		reads(t, text+"["+text+"[1]]", branch(op, branch(op, num(one))))
		fails(t, "#1="+text, 3+len(text), api.ErrSyntax)
		fails(t, "#1="+text+"1", 3+len(text), api.ErrSyntax)
		fails(t, "#1="+text+"#1", 3+len(text), api.ErrSyntax)
		reads(t, text+"[1]/[2]", branch(6, branch(op, num(one)), num(2*one)))
		fails(t, "#1="+text+"[]", 4+len(text), api.ErrSyntax)
	}
}

// P6.1: ATAN with its two expressions.
func TestAtan(t *testing.T) {
	reads(t, "ATAN[1]/[2]", leaves(11))
	reads(t, "ATAN[1+2]/[2]", branch(11, leaves(3), num(2*one)))
	reads(t, "ATAN[2]/[1+2]", branch(11, num(2*one), leaves(3)))
	reads(t, "ATAN[1]/[2]/3", branch(6, leaves(11), num(3*one)))
	reads(t, "3/ATAN[1]/[2]", branch(6, num(3*one), leaves(11)))
	reads(t, "ATAN[ATAN[1]/[2]]/[ATAN[1]/[2]]", branch(11, leaves(11), leaves(11)))
	reads(t, "ATAN[1]/[2]/ATAN[1]/[2]", branch(6, leaves(11), leaves(11)))
	reads(t, "-ATAN[1]/[2]", branch(2, leaves(11)))
	for line, at := range map[string]int{"#1=ATAN": 7, "#1=ATAN1": 7, "#1=ATAN[": 8, "#1=ATAN[]": 8, "#1=ATAN[1": 9, "#1=ATAN[1]": 10, "#1=ATAN[1]*[2]": 10, "#1=ATAN[1][2]": 10, "#1=ATAN[1]/": 11, "#1=ATAN[1]/2": 11, "#1=ATAN[1]/-[2]": 11, "#1=ATAN[1]/[": 12, "#1=ATAN[1]/[]": 12, "#1=ATAN[1]/[2": 13, "#1=ATAN[1]/[2]]": 14, "#1=ATAN/[1]": 7} {
		fails(t, line, at, api.ErrSyntax)
	}
}

// P6.1: the levels of the operators and their order from left to right, for each two operators.
func TestLevelsOfOperators(t *testing.T) {
	a, b, c := num(one), num(2*one), num(3*one)
	for first, level := range levels {
		for s, op := range level {
			for second, other := range levels {
				for s2, op2 := range other {
					text := "1 " + s + " 2 " + s2 + " 3"
					switch {
					case first == 2 && second == 2:
						fails(t, "#1="+text, strings.LastIndex(text, s2)+3, api.ErrSyntax)
					case first < second:
						reads(t, text, branch(op, a, branch(op2, b, c)))
					default:
						reads(t, text, branch(op2, branch(op, a, b), c))
					}
					reads(t, "[1 "+s+" 2] "+s2+" 3", branch(op2, branch(op, a, b), c))
					reads(t, "1 "+s+" [2 "+s2+" 3]", branch(op, a, branch(op2, b, c)))
				}
			}
			if first != 2 {
				reads(t, "1 "+s+" 2 "+s+" 3 "+s+" 1", branch(op, branch(op, branch(op, a, b), c), a))
			}
			reads(t, "-1 "+s+" -2", branch(op, branch(2, a), branch(2, b)))
		}
	}
	reads(t, "1 OR 2 AND 3 EQ 1 + 2 * -3", branch(24, a, branch(23, b, branch(17, c, branch(3, a, branch(5, b, branch(2, c)))))))
	reads(t, "-1 * 2 + 3 GT 1 AND 2 XOR 3", branch(25, branch(23, branch(19, branch(3, branch(5, branch(2, a), b), c), a), b), c))
	reads(t, "1 LT 2 AND 2 LT 3 OR 1 NE 3", branch(24, branch(23, branch(21, a, b), branch(21, b, c)), branch(18, a, c)))
}

// P6.1: signs in front of each other, and brackets and plus signs that leave no trace.
func TestSignsAndBrackets(t *testing.T) {
	a, b := num(one), num(2*one)
	minus := func(x api.Expr) api.Expr { return branch(api.OpNeg, x) }
	for text, x := range map[string]api.Expr{
		"-1": minus(a), "+1": a, "--1": minus(minus(a)), "-+1": minus(a), "+-1": minus(a), "++1": a, "---1": minus(minus(minus(a))), "+-+-+1": minus(minus(a)), "+++++1": a,
		"[1]": a, "[[[1]]]": a, "+[+[+1]]": a, "-[-[-1]]": minus(minus(minus(a))), "[-1]": minus(a), "-[1]": minus(a),
		"1-2": branch(4, a, b), "1--2": branch(4, a, minus(b)), "1+-2": branch(3, a, minus(b)), "1-+2": branch(4, a, b), "1++2": branch(3, a, b), "1*-2": branch(5, a, minus(b)), "1/+2": branch(6, a, b), "1---2": branch(4, a, minus(minus(b))),
		"-1*2": branch(5, minus(a), b), "-1+2": branch(3, minus(a), b), "-[1*2]": minus(leaves(5)), "-SIN[1]": minus(leaves(8)), "+SIN[+1]": leaves(8), "-#1": minus(leaves(1)), "-#1*2": branch(5, minus(leaves(1)), b), "[1]+[[2]]": branch(3, a, b), "[1+2]": leaves(3), "[[1+2]]": leaves(3),
	} {
		reads(t, text, x)
	}
	for _, n := range []int{1, 2, 100, 5000} {
		reads(t, strings.Repeat("[", n)+"1"+strings.Repeat("]", n), a)
		reads(t, strings.Repeat("+", n)+"1", a)
		reads(t, strings.Repeat("+[", n)+"#1"+strings.Repeat("]", n)+"*2", branch(5, leaves(1), b))
		reads(t, "SIN"+strings.Repeat("[", n)+"1"+strings.Repeat("]", n), leaves(8))
		gives(t, "X+"+strings.Repeat("[", n)+"1"+strings.Repeat("]", n), api.Block{Words: []api.Word{word('X', a)}})
		gives(t, "#"+strings.Repeat("[", n)+"1"+strings.Repeat("]", n)+"=2", set(b))
		fails(t, "#1="+strings.Repeat("[", n)+"1"+strings.Repeat("]", n+1), 4+2*n, api.ErrSyntax)
		fails(t, "#1="+strings.Repeat("[", n)+"1"+strings.Repeat("]", n-1), 3+2*n, api.ErrSyntax)
	}
}

// P6.1: variables of variables.
func TestVariables(t *testing.T) {
	v := func(x api.Expr) api.Expr { return branch(api.OpVar, x) }
	a := num(one)
	for text, x := range map[string]api.Expr{
		"#1": v(a), "# 1": v(a), "##1": v(v(a)), "###1": v(v(v(a))), "#[1]": v(a), "#[#1]": v(v(a)), "#[##[1]]": v(v(v(a))), "#[1+2]": v(leaves(3)), "#[-1]": v(branch(2, a)), "#[SIN[1]]": v(leaves(8)), "#1.5": v(num(1500000)), "#0": v(num(0)),
		"#1+2": branch(3, v(a), num(2*one)), "#[1]+2": branch(3, v(a), num(2*one)), "##1*2": branch(5, v(v(a)), num(2*one)),
	} {
		reads(t, text, x)
		gives(t, "#["+text+"]=1", api.Block{Kind: api.BlockSet, Left: x, X: a})
	}
	gives(t, "###1=1", api.Block{Kind: api.BlockSet, Left: v(v(a)), X: a})
	gives(t, "#[1+2]=#1", api.Block{Kind: api.BlockSet, Left: leaves(3), X: v(a)})
	gives(t, "#1.5=1", api.Block{Kind: api.BlockSet, Left: num(1500000), X: a})
	for _, s := range []string{"-1", "+1", "SIN[1]", "ATAN[1]/[2]", "=1", "]", ""} {
		fails(t, "#1=#"+s, 4, api.ErrSyntax)
		fails(t, "#1=##"+s, 5, api.ErrSyntax)
	}
}

// P6.1: at each place the first token that cannot follow, and the length of a line that ends too early.
func TestTokensThatCannotFollow(t *testing.T) {
	for _, line := range []string{
		"/ N 1 G 1 X - # 1 Y [ 1 ]", "/ N 1 # 1 = 1", "/ N 1 IF [ 1 ] GOTO 1", "/ N 1 GOTO - [ 1 ]", "/ N 1 WHILE [ 1 ] DO 1", "/ N 1 END 1", "/ N 1 O 1", "X # # [ 1 ] Y + # 1", "# # # 1 = - # # 1", "# [ 1 ] = [ 1 ]", "IF [ 1 EQ 1 ] GOTO + # 1",
		"# 1 = 1 OR 1 XOR 1 AND 1 EQ 1 + 1 - 1 * 1 / 1 MOD - + 1", "# 1 = 1 NE 1 AND 1 GT 1 AND 1 GE 1 AND 1 LT 1 AND 1 LE 1", "# 1 = [ # 1 ] + SIN [ 1 ] - COS [ - 1 ] * TAN [ 1 ] + ATAN [ 1 ] / [ 1 ]", "# 1 = ATAN [ 1 + 1 ] / [ 1 ] / ATAN [ 1 ] / [ 1 ]", "# 1 = SQRT [ ABS [ ROUND [ FIX [ FUP [ 1 ] ] ] ] ]",
	} {
		checkLine(t, line)
		parts := strings.Fields(line)
		for n := range parts {
			before := strings.Join(parts[:n], " ")
			checkLine(t, before)
			checkLine(t, before+"  ")
			for _, s := range symbols {
				checkLine(t, before+" "+s)
				checkLine(t, before+" "+s+" "+strings.Join(parts[n:], " "))
				checkLine(t, before+" "+s+" "+strings.Join(parts[n+1:], " "))
			}
		}
	}
}

// P6.1: fixed errors, so that the tests do not depend on the recognizer alone.
func TestSyntaxErrors(t *testing.T) {
	for line, at := range map[string]int{
		"X": 1, "X ": 2, "X (c)": 5, "X ;c": 4, "X\r": 2, "N": 1, "/N": 2, "O": 1, "#": 1, "#1": 2, "#1 = ": 5, "##": 2, "#[1": 3, "IF": 2, "IF[": 3, "IF[1": 4, "IF[1]": 5, "IF[1]GOTO": 9, "IF[1]GOTO-": 10, "GOTO": 4, "GOTO#": 5, "WHILE": 5, "WHILE[1]": 8, "WHILE[1]DO": 10, "END": 3,
		"//": 1, "N1/": 2, "N1N2": 2, "N1//": 2, "/N1/": 3, "X1/": 2, "1": 0, "=": 0, "[1]": 0, "]": 0, "+1": 0, "-X1": 0, "DO1": 0, "EQ": 0, "SIN[1]": 0, "MOD": 0,
		"IF1": 2, "IF#1": 2, "IF-[1]": 2, "IF[]": 3, "IF[1]5": 5, "IF[1]X5": 5, "IF[1]DO1": 5, "IF[1]]": 5, "IF[X1]GOTO1": 3, "GOTOX": 4, "GOTO1X1": 5, "GOTO1 2": 6,
		"WHILE1": 5, "WHILE[]": 6, "WHILE[1]1": 8, "WHILE[1]GOTO1": 8, "WHILE[1]DO1X1": 11, "WHILE[1]DO1 1": 12, "WHILE[1]DO[1]": 10, "END1X1": 4, "END1 2": 5, "ENDEND": 3, "O1X1": 2, "O1 2": 3, "O1=": 2, "/1": 1, "N1 1": 3,
		"#1=1X1": 4, "#1=1 2": 5, "#1=1=1": 4, "#1=X": 3, "#1==1": 3, "#1+1=1": 2, "#1 1": 3, "#=1": 1, "#1=1+": 5, "#1=1+*2": 5, "#1=*2": 3, "#1=1**2": 5, "#1=1EQ2EQ3": 7, "#1=1EQ2LT3": 7, "#1=[1EQ2]EQ3EQ4": 12, "#1=1AND": 7, "#1=1ANDOR1": 7, "#1=1MODMOD2": 7, "#1=[1": 5, "#1=[1]]": 6, "#1=[": 4, "#1=[]": 4, "#1=-": 4, "#1=1[2]": 4, "#1=[1][2]": 6, "#1=#1#2": 5, "#1=1SIN[1]": 4,
		"G1 X2 ]": 6, "G1 = 2": 3, "G1 X": 4, "G1 X X": 5, "GX1": 1, "G1 EQ 1": 3, "X[1+]": 4, "X[+]": 3, "X[1+2": 5, "X[1 Y2]": 4,
	} {
		fails(t, line, at, api.ErrSyntax)
		checkLine(t, line)
	}
}

// P6.1: an error of layer 5 precedes all errors of the grammar, and the first of several errors decides.
func TestOrderOfErrors(t *testing.T) {
	for line, at := range map[string]int{
		"n": 0, "x1": 0, "G1 x": 3, "$": 0, "X1..2": 1, "X1234567890": 1, "(": 0, "G1 (": 3, "G1)": 2, "G1\nX2": 2, "\n": 0, "X1.2345678": 1, "X 1 $ (": 4,
		"] $": 2, "X X X .": 6, "=1 (": 3, "N0 x": 3, "#1=1 EQ 2 EQ 3 é": 15, "END 4 ..": 6, "WHILE X1 )": 9, "X\n": 1,
	} {
		fails(t, line, at, api.ErrSyntax)
		if _, want, err := lex.Tokens(line); want != at || err != api.ErrSyntax {
			t.Errorf("Tokens(%q) has its error at %d, not at %d", line, want, at)
		}
	}
	for line, at := range map[string]int{"X1 ] = [": 3, "= =": 0, "X X": 2, "N0 N0": 1, "#1=1 1 1": 5, "IF 1 GOTO": 3, "END 4 X": 4, "#1=[1 2 3": 6, "X1 O1 N1": 3} {
		fails(t, line, at, api.ErrSyntax)
	}
}

// P6.1: what separates tokens has no meaning, and the length of the line counts all its bytes.
func TestSeparatorsBetweenTokens(t *testing.T) {
	lines := []string{"/ N10 G1 X-.5 Y[#1+2] Z#[3]", "/ N10 #1 = ATAN[1]/[-2] MOD 3 XOR FUP[1]", "IF [1 EQ 2] GOTO 10", "WHILE [1] DO 2", "GOTO 5", "END 1", "O 7", ""}
	for _, line := range lines {
		tokens, _, _ := lex.Tokens(line)
		want := read(tokens)
		for _, s := range []string{"", " ", "\t", "\r", "()", "(x;])", " (1..2)\t"} {
			text := s
			for i, token := range tokens {
				end := len(line)
				if i+1 < len(tokens) {
					end = tokens[i+1].At
				}
				text += strings.TrimSpace(line[token.At:end]) + s
			}
			gives(t, text, want)
			gives(t, text+";x = (", want)
			gives(t, " "+text+"\r", want)
			fails(t, text+"]", len(text), api.ErrSyntax)
		}
	}
	gives(t, "(\n)", api.Block{})
	gives(t, "END(\n)2;\nX", api.Block{Kind: api.BlockEnd, N: 2})
}

// P6.1: all short lines.
func TestAllShortLines(t *testing.T) {
	for _, alphabet := range []string{"/ N X 1 # =", "# 1 = - [ ]", "IF [ 1 ] GOTO", "WHILE 1 [ ] DO", "X - # 1 [ ]", "ATAN [ 1 ] /", "O END GOTO 1 N"} {
		parts := strings.Fields(alphabet)
		for length := range 6 {
			everyLine(parts, length, "", func(line string) { checkLine(t, line) })
		}
	}
	for length := range 4 {
		everyLine(symbols, length, "", func(line string) { checkLine(t, line) })
	}
	// All short expressions, with brackets around them and without.
	for _, alphabet := range []string{"1 2 - * EQ", "1 + [ ] SIN", "3 OR AND LT MOD", "# 1 / - XOR"} {
		parts := strings.Fields(alphabet)
		for length := range 6 {
			everyLine(parts, length, "", func(text string) {
				checkLine(t, "#1="+text)
				checkLine(t, "X["+text+"]")
			})
		}
	}
}

// everyLine calls check with each line of the given number of parts.
func everyLine(parts []string, length int, line string, check func(string)) {
	if length == 0 {
		check(line)
		return
	}
	for _, part := range parts {
		everyLine(parts, length-1, line+part+" ", check)
	}
}

// P6.1: random ways through the grammar, with each token at the end of each.
func TestWaysThroughTheGrammar(t *testing.T) {
	r := newRandom(1)
	for range 200 {
		line := ""
		way := newRecognizer()
		for range 24 {
			type step struct {
				text string
				way  *recognizer
			}
			var steps []step
			for _, s := range symbols {
				if next := checkNext(t, way, line, s); next != nil {
					steps = append(steps, step{s, next})
				}
			}
			if len(steps) == 0 {
				break
			}
			chosen := steps[r.IntN(len(steps))]
			way = chosen.way
			line += chosen.text + []string{" ", "  ", "(x)", "\t"}[r.IntN(4)]
		}
	}
}

// checkNext compares Line with the grammar for the text of a token behind a line that led to way. It returns the way behind the token, or nil.
func checkNext(t *testing.T, way *recognizer, line, text string) *recognizer {
	t.Helper()
	tokens, _, _ := lex.Tokens(line + text)
	next := way.with(tokens[len(tokens)-1])
	switch {
	case next == nil:
		fails(t, line+text, len(line), api.ErrSyntax)
	case next.complete():
		describes(t, line+text, read(tokens))
	default:
		fails(t, line+text, len(line+text), api.ErrSyntax)
	}
	return next
}

// P6.1: random lines of the text of valid blocks, in which a token is left out, doubled, replaced or exchanged.
func TestChangedLines(t *testing.T) {
	r := newRandom(2)
	for range 3000 {
		line := formatted(r.block(4))
		checkLine(t, line)
		parts := pieces(line)
		if len(parts) == 0 {
			continue
		}
		at := r.IntN(len(parts))
		other := r.IntN(len(parts))
		s := symbols[r.IntN(len(symbols))]
		checkLine(t, strings.Join(slices.Concat(parts[:at], parts[at+1:]), " "))
		checkLine(t, strings.Join(slices.Insert(slices.Clone(parts), at, parts[at]), " "))
		checkLine(t, strings.Join(slices.Insert(slices.Clone(parts), at, s), " "))
		checkLine(t, strings.Join(slices.Concat(parts[:at], []string{s}, parts[at+1:]), " "))
		checkLine(t, strings.Join(parts[:at], " "))
		parts[at], parts[other] = parts[other], parts[at]
		checkLine(t, strings.Join(parts, " "))
	}
}

// pieces returns the texts of the tokens of a line.
func pieces(line string) []string {
	tokens, _, _ := lex.Tokens(line)
	var parts []string
	for i, token := range tokens {
		end := len(line)
		if i+1 < len(tokens) {
			end = tokens[i+1].At
		}
		parts = append(parts, strings.TrimSpace(line[token.At:end]))
	}
	return parts
}

// R1: each byte at several places of a line.
func TestEveryByte(t *testing.T) {
	for b := range 256 {
		s := string([]byte{byte(b)})
		for _, line := range []string{s, "X" + s, "X1" + s, "#1=1" + s + "2", "#" + s + "=2", "N" + s, "END" + s, "IF[" + s + "]GOTO1", "WHILE[1" + s + "]DO1", s + "G1", s + s} {
			checkLine(t, line)
		}
		checkLine(t, "N"+strconv.Itoa(b)+"O"+strconv.Itoa(b))
	}
}
