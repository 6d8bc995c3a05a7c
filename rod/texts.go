package rod

import (
	"strconv"
	"strings"

	"sedge/api"
)

// unit is a unit of a text: its letter, and how many of the least unit it has.
type unit struct {
	letter string
	size   int
}

// The units from the greatest to the least one, which has the size 1.
var (
	areaUnits   = [3]unit{{"a", 160}, {"r", 40}, {"p", 1}}
	lengthUnits = [3]unit{{"f", 1000}, {"c", 100}, {"l", 1}}
)

// FormatArea returns the text of an area.
func FormatArea(perches int) (string, api.Errno) {
	return format(areaUnits, perches)
}

// ParseArea returns the area of a text.
func ParseArea(text string) (int, api.Errno) {
	return parse(areaUnits, text)
}

// FormatLength returns the text of a length.
func FormatLength(links int) (string, api.Errno) {
	return format(lengthUnits, links)
}

// ParseLength returns the length of a text.
func ParseLength(text string) (int, api.Errno) {
	return parse(lengthUnits, text)
}

func format(units [3]unit, n int) (string, api.Errno) {
	if n < 0 || n > api.MaxArea {
		return "", api.ErrArg
	}
	return join(units, n), api.OK
}

func join(units [3]unit, n int) string {
	if n == 0 {
		return "0" + units[2].letter
	}
	var words []string
	for _, u := range units {
		if n >= u.size {
			words = append(words, strconv.Itoa(n/u.size)+u.letter)
		}
		n %= u.size
	}
	return strings.Join(words, " ")
}

func parse(units [3]unit, text string) (int, api.Errno) {
	sum := 0
	for word := range strings.SplitSeq(text, " ") {
		n, ok := value(units, word)
		if !ok || n > api.MaxArea-sum {
			return 0, api.ErrForm
		}
		sum += n
	}
	// Words in another order, too great or spelt otherwise add up as well: the sum's own text alone is right.
	if join(units, sum) != text {
		return 0, api.ErrForm
	}
	return sum, api.OK
}

// value returns what a word stands for, and false if it is no number of any
// unit within MaxArea.
func value(units [3]unit, word string) (int, bool) {
	for _, u := range units {
		digits, ok := strings.CutSuffix(word, u.letter)
		if !ok {
			continue
		}
		n, err := strconv.Atoi(digits)
		if err != nil || n < 0 || n > api.MaxArea/u.size {
			return 0, false
		}
		return n * u.size, true
	}
	return 0, false
}
