package rod

import "sedge/api"

// cross is above 0 if c lies on the left of the line from a to b, below 0 if
// it lies on the right, and 0 if it lies on the line.
func cross(a, b, c api.XY) int {
	return (b.X-a.X)*(c.Y-a.Y) - (b.Y-a.Y)*(c.X-a.X)
}

// dot is above 0 if b and c lie in directions from a that are less than a
// right angle apart.
func dot(a, b, c api.XY) int {
	return (b.X-a.X)*(c.X-a.X) + (b.Y-a.Y)*(c.Y-a.Y)
}

// onSide reports whether a post lies on the side from a to b, ends included.
func onSide(a, b, at api.XY) bool {
	return cross(a, b, at) == 0 && dot(at, a, b) <= 0
}

// sidesMeet reports whether the sides from a to b and from c to d have a point
// in common.
func sidesMeet(a, b, c, d api.XY) bool {
	if onSide(a, b, c) || onSide(a, b, d) || onSide(c, d, a) || onSide(c, d, b) {
		return true
	}
	// With no end on the other side, they meet only where each one crosses the other's line.
	return sign(cross(a, b, c))*sign(cross(a, b, d)) < 0 && sign(cross(c, d, a))*sign(cross(c, d, b)) < 0
}

func sign(n int) int {
	switch {
	case n > 0:
		return 1
	case n < 0:
		return -1
	}
	return 0
}

func abs(n int) int {
	if n < 0 {
		return -n
	}
	return n
}

func between(n, least, most int) bool {
	return least <= n && n <= most
}
