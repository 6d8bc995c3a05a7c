package wader

import (
	"sedge/api"
	"sedge/ratio"
)

const maxCaught = 1000000

// Marked returns how many birds there are by two catches, of which the second
// one has so many marked ones: by their ratio, in lowest terms, and with one bird
// more each time, which is left out at the end, rounded down.
func Marked(first, second, again int) (api.Ratio, int, api.Errno) {
	if !isCatch(first) || !isCatch(second) || again < 0 || again > min(first, second) {
		return api.Ratio{}, 0, api.ErrArg
	}
	if again == 0 {
		return api.Ratio{}, 0, api.ErrNone
	}
	return ratio.Lowest(first*second, again), (first+1)*(second+1)/(again+1) - 1, api.OK
}

func isCatch(n int) bool {
	return 0 <= n && n <= maxCaught
}
