package scope

// set holds the things of a list, each with the place where it stands first.
type set[T comparable] map[T]int

func setOf[T comparable](l []T) set[T] {
	s := set[T]{}
	for at, one := range l {
		if !s.has(one) {
			s[one] = at
		}
	}
	return s
}

func (s set[T]) has(one T) bool {
	_, is := s[one]
	return is
}

// first tells the place of what is in s.
func (s set[T]) first(one T) int { return s[one] }
