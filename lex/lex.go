// Package lex: tokens: see doc/01-lex.md.
package lex

import (
	"strconv"
	"strings"

	"bellwright/api"
)

const signs = "{}()[],;=.+-*/%<!&|"

// Check tells whether these are tokens: kinds are asked of all of them ahead of their forms, and forms ahead of how many there are.
func Check(l []api.Tok) api.Errno {
	for _, t := range l {
		if t.Kind < api.Word || t.Kind > api.Sign {
			return api.ErrKind
		}
	}
	for _, t := range l {
		if !isToken(t) {
			return api.ErrForm
		}
	}
	if len(l) > api.MaxText {
		return api.ErrMany
	}
	return api.OK
}

// Lex tells the tokens of a text.
func Lex(s string) ([]api.Tok, api.Errno) {
	if len(s) > api.MaxText {
		return nil, api.ErrMany
	}
	return tokens(s)
}

// Show tells the text of tokens, with one blank between each two.
func Show(l []api.Tok) (string, api.Errno) {
	if e := Check(l); e != api.OK {
		return "", e
	}
	var b strings.Builder
	for i, t := range l {
		if i > 0 {
			b.WriteByte(' ')
		}
		b.WriteString(tokenText(t))
	}
	return b.String(), api.OK
}

// tokens ends with ErrForm where a piece of the text is no token: token panics there.
func tokens(s string) (l []api.Tok, e api.Errno) {
	defer func() {
		if recover() != nil {
			l, e = nil, api.ErrForm
		}
	}()
	for at := 0; at < len(s); {
		end := pieceEnd(s, at)
		if s[at] != ' ' && s[at] != '\n' {
			// A copy, so that the answer holds nothing of the text that was handed in.
			l = append(l, token(strings.Clone(s[at:end])))
		}
		at = end
	}
	return l, api.OK
}

func tokenText(t api.Tok) string {
	if t.Kind == api.Number {
		return strconv.Itoa(t.N)
	}
	return t.Text
}

// isToken is asked of tokens whose Kind is one.
func isToken(t api.Tok) bool {
	switch t.Kind {
	case api.Word:
		return t.N == 0 && isName(t.Text)
	case api.Number:
		return t.Text == "" && t.N >= 0 && t.N <= api.MaxNumber
	}
	return t.N == 0 && isSign(t.Text)
}

// pieceEnd tells where the piece that begins at a place ends: letters and digits side by side are one, each other byte is one alone.
func pieceEnd(s string, at int) int {
	end := at + 1
	if !isLetter(s[at]) && !isDigit(s[at]) {
		return end
	}
	for end < len(s) && (isLetter(s[end]) || isDigit(s[end])) {
		end++
	}
	return end
}

// token panics, if the piece is no token.
func token(s string) api.Tok {
	switch {
	case isSign(s):
		return api.Tok{Kind: api.Sign, Text: s}
	case isName(s):
		return api.Tok{Kind: api.Word, Text: s}
	}
	return api.Tok{Kind: api.Number, N: number(s)}
}

// number panics, if the piece is no number. It asks at each digit, so that no sum goes round.
func number(s string) int {
	if len(s) > 1 && s[0] == '0' {
		panic(api.ErrForm)
	}
	n := 0
	for i := range len(s) {
		if !isDigit(s[i]) {
			panic(api.ErrForm)
		}
		n = n*10 + int(s[i]-'0')
		if n > api.MaxNumber {
			panic(api.ErrForm)
		}
	}
	return n
}

func isName(s string) bool {
	if s == "" || len(s) > api.MaxName || !isLetter(s[0]) {
		return false
	}
	for i := range len(s) {
		if !isLetter(s[i]) && !isDigit(s[i]) {
			return false
		}
	}
	return true
}

func isSign(s string) bool {
	return len(s) == 1 && strings.IndexByte(signs, s[0]) >= 0
}

func isLetter(c byte) bool { return c >= 'a' && c <= 'z' }

func isDigit(c byte) bool { return c >= '0' && c <= '9' }
