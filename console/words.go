package console

import (
	"slices"
	"strings"

	"cullet/api"
)

// linesOf: the pieces between bytes 10; an empty piece at the end is none.
func linesOf(script string) []string {
	lines := strings.Split(script, "\n")
	if last := len(lines) - 1; lines[last] == "" {
		return lines[:last]
	}
	return lines
}

// wordsOf: the longest pieces without a blank. (The library's Fields would part a line at other blanks too.)
func wordsOf(line string) []string {
	isNone := func(piece string) bool { return piece == "" }
	return slices.DeleteFunc(strings.Split(line, " "), isNone)
}

// arguments are what stands behind a line's command: the words that are still to be read, and what was read.
type arguments struct {
	left    []string
	numbers []int
	word    string
	bytes   []byte
	family  api.Family
	backend api.Backend
	free    bool
}

// part reads one argument of a form, or all that are left. Where the words are not what it reads it gives up by a panic with ErrArgs, which Do catches.
type part func(*arguments)

// read: the arguments by the parts of the form, one behind the other.
func read(form []part, words []string) *arguments {
	a := &arguments{left: words}
	for _, take := range form {
		take(a)
	}
	if len(a.left) > 0 {
		panic(api.ErrArgs)
	}
	return a
}

func (a *arguments) next() string {
	if len(a.left) == 0 {
		panic(api.ErrArgs)
	}
	word := a.left[0]
	a.left = a.left[1:]
	return word
}

func (a *arguments) takeWord() { a.word = a.next() }

func (a *arguments) takeNumber() { a.numbers = append(a.numbers, numberOf(a.next())) }

// takeNumbers: one or more, all that are left.
func (a *arguments) takeNumbers() {
	a.takeNumber()
	for len(a.left) > 0 {
		a.takeNumber()
	}
}

// takePicks: free alone, or all that are left, signed.
func (a *arguments) takePicks() {
	if slices.Equal(a.left, []string{"free"}) {
		a.free, a.left = true, nil
	}
	for len(a.left) > 0 {
		a.numbers = append(a.numbers, signedOf(a.next()))
	}
}

func (a *arguments) takeBytes() { a.bytes = bytesOf(a.next()) }

// takeByte: bytes, but just one.
func (a *arguments) takeByte() {
	a.takeBytes()
	if len(a.bytes) != 1 {
		panic(api.ErrArgs)
	}
}

func (a *arguments) takeFamily() {
	switch a.next() {
	case "vander":
		a.family = api.Vander
	case "cauchy":
		a.family = api.Cauchy
	case "long":
		a.family = api.Long
	default:
		panic(api.ErrArgs)
	}
}

func (a *arguments) takeBackend() {
	switch a.next() {
	case "table":
		a.backend = api.Table
	case "nibble":
		a.backend = api.Nibble
	case "sliced":
		a.backend = api.Sliced
	case "direct":
		a.backend = api.Direct
	case "fast":
		a.backend = api.Fast
	default:
		panic(api.ErrArgs)
	}
}

// longest: so many digits a number may have; all such numbers are ints.
const longest = 18

// numberOf: each number has just one text.
func numberOf(word string) int {
	if len(word) < 1 || len(word) > longest || word[0] == '0' && len(word) > 1 {
		panic(api.ErrArgs)
	}
	number := 0
	for _, digit := range []byte(word) {
		if digit < '0' || digit > '9' {
			panic(api.ErrArgs)
		}
		number = 10*number + int(digit-'0')
	}
	return number
}

// signedOf: there is no -0.
func signedOf(word string) int {
	behind, isBelow := strings.CutPrefix(word, "-")
	number := numberOf(behind)
	switch {
	case isBelow && number == 0:
		panic(api.ErrArgs)
	case isBelow:
		return -number
	}
	return number
}

func bytesOf(word string) []byte {
	if word == noBytes {
		return nil
	}
	if len(word)%2 != 0 {
		panic(api.ErrArgs)
	}
	list := make([]byte, len(word)/2)
	for i := range list {
		list[i] = halfOf(word[2*i])<<4 | halfOf(word[2*i+1])
	}
	return list
}

func halfOf(digit byte) byte {
	value := strings.IndexByte(digits, digit)
	if value < 0 {
		panic(api.ErrArgs)
	}
	return byte(value)
}
