// Package draw tells random numbers that are given: see DOC.md, chapter 1.
package draw

import (
	"slices"

	"warp/api"
)

const (
	lastAt  = 1 << 31 // At of the last draw that there is
	maxMany = 1 << 16 // draws of one Many
)

// Mix makes of n's lowest 32 bits a number of 31 bits.
func Mix(n int) int {
	x := uint32(n)*2654435769 + 12345
	x ^= x >> 16
	x *= 2246822519
	x ^= x >> 13
	return low31(x)
}

// Next tells the number that is drawn, and the draws behind it.
func Next(d api.Draws) (int, api.Draws) {
	return next(own(d))
}

// Many tells n numbers drawn one behind the other, and the draws behind them.
func Many(d api.Draws, n int) ([]int, api.Draws) {
	d = own(d)
	if n <= 0 || n > maxMany {
		return nil, d
	}
	l := make([]int, n)
	for i := range l {
		l[i], d = next(d)
	}
	return l, d
}

// next is Next without new memory for L: Many would copy L for each number.
func next(d api.Draws) (int, api.Draws) {
	if d.At < 0 || d.At > lastAt {
		return 0, d
	}
	n := number(d)
	d.At++
	return n, d
}

// number tells the number at d's At, which is a place where one is drawn.
func number(d api.Draws) int {
	if d.At < len(d.L) {
		return low31(uint32(d.L[d.At]))
	}
	return Mix(d.At)
}

// own tells d as it is, its L in new memory: the one who handed it in goes on writing into that.
func own(d api.Draws) api.Draws {
	d.L = slices.Clone(d.L)
	return d
}

// low31 tells x's lowest 31 bits.
func low31(x uint32) int {
	return int(x << 1 >> 1)
}
