package tree

// stack is what one came by, the last on top.
type stack[T any] struct {
	items []T
}

func (s *stack[T]) push(item T) {
	s.items = append(s.items, item)
}

// pop takes the top one away, if there is one.
func (s *stack[T]) pop() (T, bool) {
	var top T
	if s.depth() == 0 {
		return top, false
	}
	last := s.depth() - 1
	top = s.items[last]
	s.items = s.items[:last]
	return top, true
}

func (s *stack[T]) depth() int {
	return len(s.items)
}
