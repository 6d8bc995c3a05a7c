package bed

import (
	"strings"

	"sedge/api"
)

// letters has the letter of each kind, from Reed on.
const letters = "rwsp"

// Format returns the text of a map.
func Format(m api.Map) (string, api.Errno) {
	if !Valid(m) {
		return "", api.ErrMap
	}
	var text strings.Builder
	for at := range m.W * m.H {
		if at > 0 && at%m.W == 0 {
			text.WriteByte('/')
		}
		text.WriteByte(letters[m.Squares[at]-api.Reed])
	}
	return text.String(), api.OK
}

// Parse returns the valid map of a text.
func Parse(text string) (api.Map, api.Errno) {
	var m api.Map
	for line := range strings.SplitSeq(text, "/") {
		if m.H == 0 {
			m.W = len(line)
		}
		m.H++
		if len(line) != m.W || !isSide(m.W) || !isSide(m.H) {
			return api.Map{}, api.ErrForm
		}
		for i := range m.W {
			kind := strings.IndexByte(letters, line[i]) + api.Reed
			if !isKind(kind) {
				return api.Map{}, api.ErrForm
			}
			m.Squares = append(m.Squares, kind)
		}
	}
	return m, api.OK
}
