// Package lists makes lists that the tests of the other packages hand in, and tells what those ask of lists.
package lists

import "slices"

const spare = 20 // places behind the end of a list with spare room

// Roomy tells l with spare room behind it, filled with x.
func Roomy[T any](l []T, x T) []T {
	r := append(slices.Clone(l), slices.Repeat([]T{x}, spare)...)
	return r[:len(l)]
}

// Scribble writes x into l, and into its spare room.
func Scribble[T any](l []T, x T) {
	l = l[:cap(l)]
	for i := range l {
		l[i] = x
	}
}

// Shared tells whether any two of these lists share memory, spare room too.
func Shared[T any](all [][]T) bool {
	seen := map[*T]int{}
	for _, l := range all {
		l = l[:cap(l)]
		for i := range l {
			if seen[&l[i]]++; seen[&l[i]] > 1 {
				return true
			}
		}
	}
	return false
}

// Span tells the numbers from low to high.
func Span(low, high int) []int {
	var l []int
	for x := low; x <= high; x++ {
		l = append(l, x)
	}
	return l
}

// Of tells n times x.
func Of(n, x int) []int {
	return slices.Repeat([]int{x}, n)
}

// Each calls f with each list of n numbers that are all of alphabet, each time a new one.
func Each(n int, alphabet []int, f func([]int)) {
	l := make([]int, n)
	var fill func(int)
	fill = func(i int) {
		if i == n {
			f(slices.Clone(l))
			return
		}
		for _, x := range alphabet {
			l[i] = x
			fill(i + 1)
		}
	}
	fill(0)
}

// Orders calls f with each order of l, each time a new list.
func Orders[T any](l []T, f func([]T)) {
	var put func(done, left []T)
	put = func(done, left []T) {
		if len(left) == 0 {
			f(slices.Clone(done))
		}
		for i, x := range left {
			put(append(slices.Clip(done), x), slices.Delete(slices.Clone(left), i, i+1))
		}
	}
	put(nil, l)
}

// Shuffle puts l in another order, by a function that tells numbers from 0 to below its argument.
func Shuffle[T any](next func(int) int, l []T) {
	for i := range l {
		j := next(i + 1)
		l[i], l[j] = l[j], l[i]
	}
}
