package sets

// queue holds what is still to be looked at, each thing once.
type queue[T comparable] struct {
	things  []T
	waiting map[T]struct{} // the same things
}

func newQueue[T comparable]() *queue[T] {
	return &queue[T]{waiting: map[T]struct{}{}}
}

// add adds things behind the others, but those that wait already.
func (q *queue[T]) add(things ...T) {
	for _, thing := range things {
		if _, ok := q.waiting[thing]; !ok {
			q.waiting[thing] = struct{}{}
			q.things = append(q.things, thing)
		}
	}
}

// take takes the first thing out, if there is one.
func (q *queue[T]) take() (first T, ok bool) {
	if len(q.things) == 0 {
		return first, false
	}
	first = q.things[0]
	q.things = q.things[1:]
	delete(q.waiting, first)
	return first, true
}

// Settle looks at things in their order, then at those again of which a look says that something has changed for them, till nothing changes.
func Settle[T comparable](things []T, look func(T) []T) {
	q := newQueue[T]()
	q.add(things...)
	for {
		thing, ok := q.take()
		if !ok {
			return
		}
		q.add(look(thing)...)
	}
}
