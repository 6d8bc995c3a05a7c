package marsh

import (
	"strconv"
	"strings"

	"sedge/api"
	"sedge/bed"
)

const (
	maxLetters = 8      // of a NAME
	maxNumber  = 999999 // the greatest one of 6 digits
)

// call is what a line asks for: a deed or a question.
type call interface {
	// on does it to a state. A deed is put before it has its effect.
	on(s *state, a args, put func() api.Errno) (string, api.Errno)
}

// deed returns what a state becomes, and the number that is its answer.
type deed func(s state, a args) (state, int, api.Errno)

// question returns its answer.
type question func(s state, a args) (string, api.Errno)

// args is what a line has behind its first word.
type args struct {
	name    string
	numbers []int
	text    string
}

// order is a kind of line. Its form has a word for each one of the line: NAME; X or
// Y, for numbers that may be below 0; N for others; HIP for 0 or 1; any other word
// for itself. At its end `..` stands for more of X Y, and T for the rest of the line.
type order struct {
	form string
	call call
}

// do does a line to a state.
func (s *state) do(line string, put func() api.Errno) (string, api.Errno) {
	if len(line) > api.MaxEntry || strings.Contains(line, "\n") {
		return "", api.ErrCommand
	}
	for _, o := range orders() {
		if a, is := o.read(line); is {
			return o.call.on(s, a, put)
		}
	}
	return "", api.ErrCommand
}

func orders() []order {
	return []order{
		{"parcel NAME X Y ..", deed(state.addParcel)},
		{"map T", deed(state.setMap)},
		{"spread", grown(bed.Spread)},
		{"mow", grown(bed.Mow)},
		{"custom T", deed(state.addCustom)},
		{"drop N", deed(state.drop)},
		{"see X Y N", deed(state.see)},
		{"strip N N N", deed(state.addStrip)},
		{"bundles N", deed(state.addBundles)},
		{"roof N N N N N HIP", deed(state.thatchRoof)},
		{"area NAME", question(state.area)},
		{"inside NAME X Y", question(state.inside)},
		{"way N N", question(state.way)},
		{"holds T", question(state.holds)},
		{"steps T", question(state.steps)},
		{"share", question(state.share)},
		{"birds", question(state.birds)},
	}
}

func (d deed) on(s *state, a args, put func() api.Errno) (string, api.Errno) {
	next, answer, err := d(*s, a)
	if err == api.OK {
		err = put()
	}
	if err == api.OK {
		*s = next
	}
	return told(answer, err)
}

func (q question) on(s *state, a args, _ func() api.Errno) (string, api.Errno) {
	return q(*s, a)
}

// read takes a line apart, and returns false if it has another form.
func (o order) read(line string) (args, bool) {
	if start, is := strings.CutSuffix(o.form, "T"); is {
		text, is := strings.CutPrefix(line, start)
		return args{text: text}, is
	}
	words := strings.Split(line, " ")
	kinds := o.kinds(len(words))
	if len(words) != len(kinds) {
		return args{}, false
	}
	var a args
	for i, word := range words {
		if !a.take(kinds[i], word) {
			return args{}, false
		}
	}
	return a, true
}

// kinds returns the words of a form, with those for which `..` stands in a line of
// so many words.
func (o order) kinds(count int) []string {
	form, more := strings.CutSuffix(o.form, " ..")
	out := strings.Split(form, " ")
	for more && len(out) < count {
		out = append(out, "X", "Y")
	}
	return out
}

// take adds a word, and returns false if it is not of its kind.
func (a *args) take(kind, word string) bool {
	n, is := number(word)
	switch kind {
	case "NAME":
		a.name = word
		return isName(word)
	case "X", "Y":
	case "N":
		is = is && n >= 0
	case "HIP":
		is = is && (n == 0 || n == 1)
	default:
		return word == kind
	}
	a.numbers = append(a.numbers, n)
	return is
}

// number returns the number of a word, and false if there is none. Numbers that are
// spelt otherwise differ from their own texts.
func number(word string) (int, bool) {
	n, err := strconv.Atoi(word)
	return n, err == nil && -maxNumber <= n && n <= maxNumber && strconv.Itoa(n) == word
}

func isName(word string) bool {
	if word == "" || len(word) > maxLetters {
		return false
	}
	for _, letter := range word {
		if letter < 'a' || letter > 'z' {
			return false
		}
	}
	return true
}
