package ext

// greater tells the greater one of an order, which tells below 0, 0, above 0 as Cmp does; of two alike the first.
func greater[T any](order func(a, b T) int, a, b T) T {
	if order(a, b) < 0 {
		return b
	}
	return a
}

// turned tells the order the other way round: its greater one is the less one of order.
func turned[T any](order func(a, b T) int) func(a, b T) int {
	return func(a, b T) int { return order(b, a) }
}
