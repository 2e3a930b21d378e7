package sweep

// Queue is a queue by order.
type Queue[T interface{ Before(T) bool }] struct {
	heap []waiting[T] // none comes ahead of the one at half its place
	turn int
}

// waiting is one in a queue, and when it came: of several as good the first is taken.
type waiting[T interface{ Before(T) bool }] struct {
	x    T
	turn int
}

func (w waiting[T]) ahead(o waiting[T]) bool {
	return w.x.Before(o.x) || w.turn < o.turn && !o.x.Before(w.x)
}

func NewQueue[T interface{ Before(T) bool }]() *Queue[T] { return &Queue[T]{} }

func (q *Queue[T]) Push(x T) {
	q.heap = append(q.heap, waiting[T]{x, q.turn})
	q.turn++
	q.rise(len(q.heap) - 1)
}

func (q *Queue[T]) Pop() (x T, there bool) {
	if len(q.heap) == 0 {
		return x, false
	}
	x = q.heap[0].x
	last := len(q.heap) - 1
	q.heap[0] = q.heap[last]
	q.heap[last] = waiting[T]{} // what is out is not held on to
	q.heap = q.heap[:last]
	q.sink(0)
	return x, true
}

func (q *Queue[T]) Len() int { return len(q.heap) }

// rise brings one up to where it stands behind the one above.
func (q *Queue[T]) rise(at int) {
	for at > 0 {
		above := (at - 1) / 2
		if !q.heap[at].ahead(q.heap[above]) {
			return
		}
		q.heap[at], q.heap[above] = q.heap[above], q.heap[at]
		at = above
	}
}

// sink brings one down to where it stands ahead of both below.
func (q *Queue[T]) sink(at int) {
	for {
		below := 2*at + 1
		if below >= len(q.heap) {
			return
		}
		if other := below + 1; other < len(q.heap) && q.heap[other].ahead(q.heap[below]) {
			below = other
		}
		if !q.heap[below].ahead(q.heap[at]) {
			return
		}
		q.heap[at], q.heap[below] = q.heap[below], q.heap[at]
		at = below
	}
}
