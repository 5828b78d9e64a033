package collate

import (
	"strings"

	"tome/api"
)

const (
	maxDigits = 6
	weights   = 3 // of an element
)

// refuse tells an error to build, past all calls that lie between.
func refuse(wrong bool, e api.Errno) {
	if wrong {
		panic(e)
	}
}

func readElements(words []string) []api.Element {
	elements := make([]api.Element, 0, len(words))
	for _, word := range words {
		elements = append(elements, readElement(word))
	}
	return elements
}

func readElement(word string) api.Element {
	bare, variable := strings.CutPrefix(word, "*")
	numbers := strings.Split(bare, ".")
	refuse(len(numbers) != weights, api.ErrLine)
	return api.Element{
		Primary:   readNumber(numbers[0], api.MaxWeight),
		Secondary: readNumber(numbers[1], api.MaxWeight),
		Tertiary:  readNumber(numbers[2], api.MaxWeight),
		Variable:  variable,
	}
}

func readRunes(words []string) []int {
	runes := make([]int, 0, len(words))
	for _, word := range words {
		runes = append(runes, readRune(word))
	}
	return runes
}

func readRune(word string) int { return readNumber(word, api.MaxRune) }

func readClass(word string) int {
	class := readNumber(word, api.MaxClass)
	refuse(class == 0, api.ErrLine)
	return class
}

func readNumber(word string, most int) int {
	refuse(len(word) == 0 || len(word) > maxDigits, api.ErrLine)
	refuse(word[0] == '0' && len(word) > 1, api.ErrLine)
	number := 0
	for i := range len(word) {
		number = number*16 + readDigit(word[i])
	}
	refuse(number > most, api.ErrLine)
	return number
}

func readDigit(b byte) int {
	switch {
	case b >= '0' && b <= '9':
		return int(b - '0')
	case b >= 'a' && b <= 'f':
		return int(b-'a') + 10
	default:
		panic(api.ErrLine)
	}
}
