package persist

import (
	"slices"

	"apodixis/api"
)

// list is a list that is cut and that grows at its end.
type list[T any] struct{ items []T }

func (l *list[T]) add(v T) { l.items = append(l.items, v) }

// cut removes all but the first n items.
func (l *list[T]) cut(n int) { l.items = slices.Delete(l.items, n, len(l.items)) }

// History has versions of something: the current one, and those that were undone.
type History[T any] struct {
	list[T]
	current int
}

// isMade reports whether there is a current version.
func (h *History[T]) isMade() bool { return h != nil && len(h.items) > 0 }

// NewHistory returns a history with its first version.
func NewHistory[T any](first T) *History[T] {
	h := &History[T]{}
	h.add(first)
	return h
}

// Commit adds a version behind the current one, which it becomes; versions that were undone are dropped.
func (h *History[T]) Commit(v T) api.Errno {
	if !h.isMade() {
		return api.ErrArg
	}
	if h.current >= MaxVersions-1 {
		return api.ErrFull
	}
	h.current++
	h.cut(h.current)
	h.add(v)
	return api.OK
}

// Undo goes to the version ahead of the current one.
func (h *History[T]) Undo() api.Errno { return h.move(-1) }

// Redo goes to the version behind the current one.
func (h *History[T]) Redo() api.Errno { return h.move(1) }

// move goes to another version.
func (h *History[T]) move(by int) api.Errno {
	if !h.isMade() {
		return api.ErrArg
	}
	to := h.current + by
	if to < 0 || to >= len(h.items) {
		return api.ErrNone
	}
	h.current = to
	return api.OK
}

// Current returns the current version, and its number.
func (h *History[T]) Current() (v T, n int) {
	if !h.isMade() {
		return v, 0
	}
	return h.items[h.current], h.current
}

// Fork returns a history of its own with the versions up to the current one.
func (h *History[T]) Fork() *History[T] {
	if !h.isMade() {
		return nil
	}
	return &History[T]{list: list[T]{slices.Clone(h.items[:h.current+1])}, current: h.current}
}
