// Package ring is layer 1: see shared/doc/01-ring.md.
package ring

import "reticule/api"

const mostRoom = 4096

// Ring is places for things.
type Ring[T any] struct {
	room    int
	places  []T // a power of two of them, so that counts go round at 2^32 without a jump
	in, out uint32
	laid    bool
}

// New makes a ring without things.
func New[T any](room int, begin uint32) *Ring[T] {
	return &Ring[T]{room: room, in: begin, out: begin}
}

// Push puts a thing in.
func (r *Ring[T]) Push(v T) api.Errno {
	if e := r.Lay(v); e != api.OK {
		return e
	}
	return r.Publish()
}

// Pop takes the first thing out.
func (r *Ring[T]) Pop() (T, api.Errno) {
	v, e := r.Peek()
	if e == api.OK {
		r.Free()
	}
	return v, e
}

// Lay lays a thing, which is none of the ring's till it is published.
func (r *Ring[T]) Lay(v T) api.Errno {
	switch {
	case r == nil:
		return api.ErrArg
	case r.laid:
		return api.ErrState
	case r.Room() == 0:
		return api.ErrFull
	}
	r.widen()
	*r.place(r.in) = v
	r.laid = true
	return api.OK
}

// Publish puts in the thing that is laid.
func (r *Ring[T]) Publish() api.Errno {
	switch {
	case r == nil:
		return api.ErrArg
	case !r.laid:
		return api.ErrState
	}
	r.laid = false
	r.in++
	return api.OK
}

// Peek tells the first thing.
func (r *Ring[T]) Peek() (T, api.Errno) {
	var none T
	switch {
	case r == nil:
		return none, api.ErrArg
	case r.Len() == 0:
		return none, api.ErrEmpty
	}
	return *r.place(r.out), api.OK
}

// Free takes the first thing out.
func (r *Ring[T]) Free() api.Errno {
	switch {
	case r == nil:
		return api.ErrArg
	case r.Len() == 0:
		return api.ErrEmpty
	}
	var none T
	*r.place(r.out) = none // else what is taken out would be kept
	r.out++
	return api.OK
}

// PushAll puts in as many things as there is room for, and tells how many.
func (r *Ring[T]) PushAll(l ...T) int {
	for i, v := range l {
		if r.Push(v) != api.OK {
			return i
		}
	}
	return len(l)
}

// PopSome takes the first things out, at most so many.
func (r *Ring[T]) PopSome(most int) []T {
	var some []T
	for range min(most, r.Len()) {
		v, _ := r.Pop()
		some = append(some, v)
	}
	return some
}

// Len tells how many things there are.
func (r *Ring[T]) Len() int {
	if r == nil {
		return 0
	}
	return int(r.in - r.out)
}

// Room tells how many more things there may be.
func (r *Ring[T]) Room() int {
	if r == nil {
		return 0
	}
	taken := r.Len()
	if r.laid {
		taken++
	}
	return r.limit() - taken
}

// All tells all things, the first one first.
func (r *Ring[T]) All() []T {
	var all []T
	for i := range r.Len() {
		all = append(all, *r.place(r.out + uint32(i)))
	}
	return all
}

// Counts tells how many things were put in, and taken out.
func (r *Ring[T]) Counts() (uint32, uint32) {
	if r == nil {
		return 0, 0
	}
	return r.in, r.out
}

// limit is held to its bounds here, not in New, so that a Ring that New did not make is a ring too.
func (r *Ring[T]) limit() int {
	return min(max(r.room, 1), mostRoom)
}

func (r *Ring[T]) place(count uint32) *T {
	return &r.places[count&uint32(len(r.places)-1)]
}

// widen makes a place for one more thing. Places are made as they are needed: a mesh has many rings that stay nearly empty.
func (r *Ring[T]) widen() {
	if r.Len() < len(r.places) {
		return
	}
	all := r.All()
	r.places = make([]T, max(1, 2*len(r.places)))
	for i, v := range all {
		*r.place(r.out + uint32(i)) = v
	}
}
