// Package roll numbers things as they come, each once.
package roll

// Roll is things, each once, in the order in which they came.
type Roll[T comparable] struct {
	Items  []T
	number map[T]int
}

// Of is a roll of some things.
func Of[T comparable](first ...T) *Roll[T] {
	r := &Roll[T]{number: map[T]int{}}
	for _, x := range first {
		r.Put(x)
	}
	return r
}

// Put is the number of a thing, which is put behind the others, if it is new.
func (r *Roll[T]) Put(x T) int {
	n, ok := r.number[x]
	if !ok {
		n = len(r.Items)
		r.number[x] = n
		r.Items = append(r.Items, x)
	}
	return n
}
