package syntax

import (
	"strconv"
	"strings"

	"veil/api"
)

// Type is the type of a column or a value.
type Type int

const (
	NoType Type = iota // of a column that is not there
	Int
	Text
)

// Value is a number or a text, as its type says.
type Value struct {
	Type   Type
	Number int64
	Text   string
}

// TypeWords writes types as words.
func TypeWords(types []Type) string {
	words := make([]string, len(types))
	for i, t := range types {
		words[i] = t.word()
	}
	return strings.Join(words, " ")
}

func (t Type) word() string {
	switch t {
	case Int:
		return "int"
	case Text:
		return "text"
	}
	return ""
}

func readType(word string) (Type, bool) {
	switch word {
	case "int":
		return Int, true
	case "text":
		return Text, true
	}
	return NoType, false
}

func readValue(word string) (Value, bool) {
	if number, ok := readNumber(word); ok {
		return Value{Type: Int, Number: number}, true
	}
	if text, ok := readText(word); ok {
		return Value{Type: Text, Text: text}, true
	}
	return Value{}, false
}

func readNumber(word string) (int64, bool) {
	digits, negative := strings.CutPrefix(word, "-")
	if digits == "" || !allBytes(digits, isDigit) {
		return 0, false
	}
	if digits[0] == '0' && word != "0" {
		return 0, false
	}
	number, err := strconv.ParseInt(digits, 10, 64)
	if err != nil || number > api.MaxNumber {
		return 0, false
	}
	if negative {
		number = -number
	}
	return number, true
}

func readText(word string) (string, bool) {
	if len(word) < 2 || len(word) > api.MaxText+2 {
		return "", false
	}
	if word[0] != '\'' || word[len(word)-1] != '\'' {
		return "", false
	}
	text := word[1 : len(word)-1]
	return text, allBytes(text, isTextByte)
}

// IsName tells whether a word is a name.
func IsName(word string) bool {
	return len(word) >= 1 && len(word) <= api.MaxName && allBytes(word, isLetter)
}

func allBytes(text string, holds func(byte) bool) bool {
	for i := range len(text) {
		if !holds(text[i]) {
			return false
		}
	}
	return true
}

func isLetter(b byte) bool { return b >= 'a' && b <= 'z' }

func isDigit(b byte) bool { return b >= '0' && b <= '9' }

func isTextByte(b byte) bool { return isLetter(b) || isDigit(b) || b == '_' }
