// Package ratio has what several layers need for whole numbers that are divided:
// common divisors, and fractions in lowest terms.
package ratio

import "sedge/api"

// Divisor returns the greatest common divisor of two numbers, 0 if both are 0.
func Divisor(a, b int) int {
	for b != 0 {
		a, b = b, a%b
	}
	return max(a, -a)
}

// Lowest returns a fraction in lowest terms, the zero value if d is not above 0.
func Lowest(n, d int) api.Ratio {
	if d <= 0 {
		return api.Ratio{}
	}
	by := Divisor(n, d)
	return api.Ratio{N: n / by, D: d / by}
}
