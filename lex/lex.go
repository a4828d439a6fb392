// Package lex is layer 1: words of a text: see shared/doc/01-lex.md.
package lex

import (
	"strings"

	"jetsam/api"
)

// Kinds of words.
const (
	Name   = 1
	Number = 2
	Sign   = 3
	Word   = 4
)

// Token is a word: its kind, its text, its number, where it begins.
type Token struct {
	Kind int
	Text string
	Num  int
	At   int
}

// Lex tells all words of a text, or the place where none is, and why.
func Lex(text string) ([]Token, int, api.Errno) {
	var words []Token
	for at := 0; at < len(text); {
		if isGap(text[at]) {
			at++
			continue
		}
		word, err := wordAt(text, at)
		if err != api.OK {
			return nil, at, err
		}
		at += len(word.Text)
		// One word too many is kept to know of it, and no more than that:
		// what comes behind it is still looked at for its errors.
		if len(words) <= api.MaxWords {
			// A clone, for the answer must not hold on to the text.
			word.Text = strings.Clone(word.Text)
			words = append(words, word)
		}
	}
	if len(words) > api.MaxWords {
		return nil, len(text), api.ErrLong
	}
	return words, 0, api.OK
}

// Reserved tells whether no name may be that word.
func Reserved(s string) bool {
	switch s {
	case "chan", "block", "drop", "lossy", "from", "to", "rule", "proc",
		"var", "if", "else", "while", "send", "recv", "assert", "input":
		return true
	}
	return false
}

// wordAt tells the longest word that begins at a place where no gap is.
func wordAt(text string, at int) (Token, api.Errno) {
	switch first := text[at]; {
	case isLetter(first):
		return nameAt(text, at)
	case isDigit(first):
		return numberAt(text, at)
	}
	size := signSize(text[at:])
	if size == 0 {
		return Token{}, api.ErrChar
	}
	return Token{Kind: Sign, Text: text[at : at+size], At: at}, api.OK
}

func nameAt(text string, at int) (Token, api.Errno) {
	end := at
	for end < len(text) && (isLetter(text[end]) || isDigit(text[end])) {
		end++
	}
	if end-at > api.MaxName {
		return Token{}, api.ErrNum
	}
	word := Token{Kind: Name, Text: text[at:end], At: at}
	if Reserved(word.Text) {
		word.Kind = Word
	}
	return word, api.OK
}

func numberAt(text string, at int) (Token, api.Errno) {
	end, num := at, 0
	for end < len(text) && isDigit(text[end]) {
		digit := int(text[end] - '0')
		if num > (api.MaxInt-digit)/10 {
			return Token{}, api.ErrNum
		}
		num = num*10 + digit
		end++
	}
	if text[at] == '0' && end-at > 1 {
		return Token{}, api.ErrNum
	}
	if end < len(text) && isLetter(text[end]) {
		return Token{}, api.ErrNum
	}
	return Token{Kind: Number, Text: text[at:end], Num: num, At: at}, api.OK
}

// signSize tells how long the longest sign is with which a text begins (0: none).
func signSize(text string) int {
	paired := len(text) > 1 && text[1] == '='
	switch text[0] {
	case '=', '<', '>':
		if paired {
			return 2
		}
		return 1
	case '!':
		if paired {
			return 2
		}
		return 0
	case '{', '}', '(', ')', ';', ',', '.', '+', '-', '*', '/', '%':
		return 1
	}
	return 0
}

func isGap(b byte) bool {
	return b == ' ' || b == '\n'
}

func isLetter(b byte) bool {
	return 'a' <= b && b <= 'z'
}

func isDigit(b byte) bool {
	return '0' <= b && b <= '9'
}
