// Package limit holds numbers within their limits, for all layers.
package limit

// Within answers the number from least to most that is nearest to n.
func Within(n, least, most int) int {
	if n < least {
		return least
	}
	if n > most {
		return most
	}
	return n
}
