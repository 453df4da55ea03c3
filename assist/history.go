package assist

// list is a persistent list: an item more makes another list, which shares the rest with it.
type list[T any] struct {
	item T
	rest *list[T]
	size int
}

func (l *list[T]) length() int {
	if l == nil {
		return 0
	}
	return l.size
}

func (l *list[T]) with(item T) *list[T] { return &list[T]{item, l, l.length() + 1} }

// history has versions: past begins with the present one, undone with the one behind it.
type history[T any] struct{ past, undone *list[T] }

// add makes a version the present one; those that were undone are forgotten.
func (h *history[T]) add(v T) { h.past, h.undone = h.past.with(v), nil }

func (h *history[T]) undo() bool {
	if h.past.length() < 2 {
		return false
	}
	h.undone, h.past = h.undone.with(h.past.item), h.past.rest
	return true
}

func (h *history[T]) redo() bool {
	if h.undone.length() == 0 {
		return false
	}
	h.past, h.undone = h.past.with(h.undone.item), h.undone.rest
	return true
}

// number returns that of the present version, 0 for the first one.
func (h *history[T]) number() int { return h.past.length() - 1 }
