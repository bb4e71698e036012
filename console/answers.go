package console

import (
	"strconv"
	"strings"

	"cullet/api"
)

const (
	digits  = "0123456789abcdef"
	noBytes = "-"
)

// told: the answer to a line that has a word.
func told(items []string, fault api.Errno) string {
	if fault != api.OK {
		return "error " + strconv.Itoa(int(fault))
	}
	return strings.Join(append([]string{"ok"}, items...), " ")
}

// textOf: bytes as they are written.
func textOf(list []byte) string {
	if len(list) == 0 {
		return noBytes
	}
	text := make([]byte, 0, 2*len(list))
	for _, b := range list {
		text = append(text, digits[b>>4], digits[b&15])
	}
	return string(text)
}

func textsOf(numbers []int) []string {
	texts := make([]string, len(numbers))
	for i, n := range numbers {
		texts[i] = strconv.Itoa(n)
	}
	return texts
}
