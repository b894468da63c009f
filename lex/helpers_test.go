package lex

import (
	"math/rand/v2"
	"regexp"
	"slices"
	"strings"
	"testing"

	"cnc/api"
	"cnc/fixed"
)

const one = api.Million

// promised are the names of P5.1, written another time.
var promised = strings.Fields("IF GOTO WHILE DO END EQ NE GT GE LT LE AND OR XOR MOD SIN COS TAN ATAN SQRT ABS ROUND FIX FUP")

// promisedSigns are the signs of P5.2, written another time.
var promisedSigns = []string{"+", "-", "*", "/", "=", "#", "[", "]"}

// separators stand between tokens and have no other meaning.
var separators = []string{" ", "\t", "\r", "  ", " \t\r ", "()", "(x)", "(;)", " (1.1.1) ", "( () "}

// refused are texts that begin no token and no separator.
var refused = []string{".", "1..2", "1234567890", "1.1234567", ")", "a", "x1", "!", ",", "$", "\n", "\x00", "\x80", "\xff", "é", "(", "(1;"}

// pieces are texts of which each is a token of its own.
func pieces() []string {
	return slices.Concat(promised, promisedSigns, []string{"G", "X", "O", "E", "A", "Z", "0", "12", "1.25", ".5", "7.", "999999999.999999"})
}

func letter(c byte, at int) api.Token {
	return api.Token{Kind: api.TokLetter, N: int(c), At: at}
}

func number(n, at int) api.Token {
	return api.Token{Kind: api.TokNumber, N: n, At: at}
}

func name(s string, at int) api.Token {
	return api.Token{Kind: api.TokName, Text: s, At: at}
}

func sign(s string, at int) api.Token {
	return api.Token{Kind: api.TokSign, Text: s, At: at}
}

// gives fails the test unless the line has the wanted tokens.
func gives(t *testing.T, line string, want ...api.Token) {
	t.Helper()
	tokens, at, err := Tokens(line)
	if !slices.Equal(tokens, want) || at != len(line) || err != api.OK {
		t.Errorf("Tokens(%q) = %v, %d, %d, want %v, %d, %d", line, tokens, at, err, want, len(line), api.OK)
	}
}

// fails fails the test unless the line has its first error at the wanted offset.
func fails(t *testing.T, line string, want int) {
	t.Helper()
	tokens, at, err := Tokens(line)
	if len(tokens) != 0 || at != want || err != api.ErrSyntax {
		t.Errorf("Tokens(%q) = %v, %d, %d, want no tokens, %d, %d", line, tokens, at, err, want, api.ErrSyntax)
	}
}

// The forms of P5.2, as regular expressions that match at the beginning.
var (
	blankForm  = regexp.MustCompile(`(?s)^(?:[ \t\r]|\([^)]*\)|;.*)`)
	numberForm = regexp.MustCompile(`^[0-9.]+`)
	nameForm   = longest(`^(?:` + strings.Join(promised, "|") + `)`)
	letterForm = regexp.MustCompile(`^[A-Z]`)
	signForm   = regexp.MustCompile(`^[-+*/=#\[\]]`)
)

func longest(form string) *regexp.Regexp {
	r := regexp.MustCompile(form)
	r.Longest()
	return r
}

// checkTokens compares Tokens with the forms.
func checkTokens(t *testing.T, line string) {
	t.Helper()
	var want []api.Token
	for at := 0; at < len(line); {
		rest := line[at:]
		if s := blankForm.FindString(rest); s != "" {
			at += len(s)
			continue
		}
		token, length := expected(rest)
		if length == 0 {
			fails(t, line, at)
			return
		}
		token.At = at
		want = append(want, token)
		at += length
	}
	gives(t, line, want...)
}

// expected returns the token at the beginning of text by the forms, and its length or 0.
func expected(text string) (api.Token, int) {
	if s := numberForm.FindString(text); s != "" {
		n, err := fixed.Parse(s)
		if err != api.OK {
			return api.Token{}, 0
		}
		return number(n, 0), len(s)
	}
	if s := nameForm.FindString(text); s != "" {
		return name(s, 0), len(s)
	}
	if s := letterForm.FindString(text); s != "" {
		return letter(s[0], 0), 1
	}
	if s := signForm.FindString(text); s != "" {
		return sign(s, 0), 1
	}
	return api.Token{}, 0
}

// samples returns lines of the given parts, the same ones in every run.
func samples(count int, parts []string) []string {
	source := rand.New(rand.NewPCG(7, 8))
	list := make([]string, count)
	for i := range list {
		for range source.IntN(12) {
			list[i] += parts[source.IntN(len(parts))]
		}
	}
	return list
}

// words returns all texts of length bytes out of alphabet.
func words(alphabet string, length int) []string {
	list := []string{""}
	for range length {
		var longer []string
		for _, s := range list {
			for i := range len(alphabet) {
				longer = append(longer, s+alphabet[i:i+1])
			}
		}
		list = longer
	}
	return list
}
