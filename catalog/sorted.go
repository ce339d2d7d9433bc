package catalog

import "slices"

// sorted is a list that a function keeps in order: no two of its items are equal by that function. Who makes one hands the items over: put and drop write into them.
type sorted[T any] struct {
	items   []T
	compare func(a, b T) int
}

// rising tells whether the items are in order at all: the other methods take it as given.
func (l *sorted[T]) rising() bool {
	for i := range len(l.items) - 1 {
		if l.compare(l.items[i], l.items[i+1]) >= 0 {
			return false
		}
	}
	return true
}

// find answers the item that is equal to x by the function, and whether there is one.
func (l *sorted[T]) find(x T) (T, bool) {
	at, found := l.place(x)
	if !found {
		var none T
		return none, false
	}
	return l.items[at], true
}

// put inserts x, or replaces the item that is equal to it.
func (l *sorted[T]) put(x T) {
	at, found := l.place(x)
	if found {
		l.items[at] = x
	} else {
		l.items = slices.Insert(l.items, at, x)
	}
}

// drop removes the item that is equal to x, and tells whether there was one.
func (l *sorted[T]) drop(x T) bool {
	at, found := l.place(x)
	if found {
		l.items = slices.Delete(l.items, at, at+1)
	}
	return found
}

// place answers where the item that is equal to x is, or where it would have to be inserted.
func (l *sorted[T]) place(x T) (int, bool) {
	return slices.BinarySearchFunc(l.items, x, l.compare)
}
