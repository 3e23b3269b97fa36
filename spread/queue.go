package spread

// queue has what waits, in the order in which it came.
type queue[T any] struct {
	waiting []T
}

func (q *queue[T]) put(x T) { q.waiting = append(q.waiting, x) }

func (q *queue[T]) size() int { return len(q.waiting) }

// take takes the first one of a queue that has one.
func (q *queue[T]) take() T {
	first := q.waiting[0]
	q.waiting = q.waiting[1:]
	return first
}
