// Package graphs makes graphs that the tests of the other packages hand in: of each node the list of those to which it
// leads. It tells them as texts, too: `1 / - / 0 2` are three nodes, of which the second leads to none.
package graphs

import (
	"math"
	"slices"
	"strconv"
	"strings"

	"warp/lists"
)

// Of tells the graph that a text says; the empty one says no nodes.
func Of(s string) [][]int {
	var g [][]int
	for row := range strings.SplitSeq(s, "/") {
		if s != "" {
			g = append(g, numbers(row))
		}
	}
	return g
}

// numbers tells the numbers of a row; of one that is no number it panics, as a test is wrong then.
func numbers(row string) []int {
	var l []int
	for field := range strings.FieldsSeq(row) {
		if field == "-" {
			continue
		}
		x, err := strconv.Atoi(field)
		if err != nil {
			panic(err)
		}
		l = append(l, x)
	}
	return l
}

// Told tells the text that says g.
func Told(g [][]int) string {
	var rows []string
	for _, row := range g {
		var l []string
		for _, x := range row {
			l = append(l, strconv.Itoa(x))
		}
		if len(l) == 0 {
			l = []string{"-"}
		}
		rows = append(rows, strings.Join(l, " "))
	}
	return strings.Join(rows, " / ")
}

// Cut tells the text that says g, cut where it is long, and how many nodes there are.
func Cut(g [][]int) string {
	s := Told(g[:min(len(g), 200)])
	return s[:min(len(s), 600)] + " of " + strconv.Itoa(len(g)) + " nodes"
}

// Same tells whether g and other have the same rows; a nil one is an empty one.
func Same(g, other [][]int) bool { return slices.EqualFunc(g, other, slices.Equal[[]int]) }

// Copy tells g in new memory.
func Copy(g [][]int) [][]int {
	return with(g, func(_ int, row []int) []int { return slices.Clone(row) })
}

// Roomy tells g with spare room behind it and behind each row, which leads to x.
func Roomy(g [][]int, x int) [][]int {
	rows := with(g, func(_ int, row []int) []int { return lists.Roomy(row, x) })
	return lists.Roomy(rows, []int{x})
}

// Scribble writes x into all of g, and into its spare room.
func Scribble(g [][]int, x int) {
	for _, row := range g {
		lists.Scribble(row, x)
	}
	lists.Scribble(g, []int{x})
}

// Shared tells whether any two lists within these graphs share memory, spare room too, or two of them do.
func Shared(all ...[][]int) bool {
	return lists.Shared(slices.Concat(all...)) || lists.Shared(all)
}

// with tells g with other rows: change tells of each node and its row another one.
func with(g [][]int, change func(x int, row []int) []int) [][]int {
	var rows [][]int
	for x, row := range g {
		rows = append(rows, change(x, row))
	}
	return rows
}

// NoNodes tells numbers that are no nodes of a graph of n nodes, some of them such that their lowest bits are a node.
func NoNodes(n int) []int {
	l := []int{-1, -2, -n, -n - 1, n, n + 1, math.MaxInt, math.MinInt, math.MaxInt - 1, math.MinInt + 1,
		math.MaxInt32, math.MinInt32}
	for _, bits := range []int{8, 16, 31, 32, 48} {
		l = append(l, 1<<bits, 1<<bits+1, -1<<bits, 1-1<<bits)
	}
	return slices.DeleteFunc(l, func(x int) bool { return x >= 0 && x < n })
}
