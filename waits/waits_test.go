package waits_test

import (
	"math"
	"slices"
	"testing"

	"jetty/api"
	"jetty/waits"
)

func TestExamples(t *testing.T) { // P10.1
	for _, c := range []struct {
		n    int
		arcs [][2]int
		want []uint64
	}{
		{3, [][2]int{{0, 1}, {1, 2}}, []uint64{6, 4, 0}},
		{2, [][2]int{{0, 1}, {1, 0}}, []uint64{3, 3}},
		{0, nil, nil},
		{1, nil, []uint64{0}},
		{1, [][2]int{{0, 0}, {0, 0}}, []uint64{1}},
	} {
		if d, e := waits.Digests(c.n, c.arcs); !slices.Equal(d, c.want) || e != api.OK {
			t.Fatal(c, d, e)
		}
	}
	for _, c := range []struct {
		n    int
		arcs [][2]int
		x    int
		want []int
	}{
		{4, [][2]int{{0, 1}, {1, 2}, {2, 0}, {1, 0}}, 0, []int{0, 1}},
		{4, [][2]int{{0, 1}, {1, 2}, {2, 0}, {1, 0}}, 2, []int{2, 0, 1}},
		{3, [][2]int{{0, 1}, {1, 2}}, 0, nil},
		{3, [][2]int{{0, 1}, {1, 1}}, 0, nil},
		{3, [][2]int{{0, 1}, {1, 1}}, 1, []int{1}},
		{3, [][2]int{{0, 1}, {1, 0}, {0, 0}}, 0, []int{0}},
		{5, [][2]int{{0, 4}, {0, 3}, {4, 1}, {3, 2}, {1, 0}, {2, 0}}, 0, []int{0, 3, 2}},
		{5, [][2]int{{0, 3}, {3, 4}, {3, 2}, {4, 0}, {2, 0}, {0, 1}}, 0, []int{0, 3, 2}},
		{6, [][2]int{{5, 0}, {0, 1}, {1, 5}, {5, 4}, {4, 5}}, 5, []int{5, 4}},
		{1, nil, 0, nil},
	} {
		if l, e := waits.Circle(c.n, c.arcs, c.x); !slices.Equal(l, c.want) || e != api.OK {
			t.Fatal(c, l, e)
		}
	}
}

func TestVictim(t *testing.T) { // P10.1
	for _, c := range []struct {
		l    []int
		want int
		ok   bool
	}{
		{nil, 0, false}, {[]int{}, 0, false}, {[]int{0, 3, 1}, 3, true}, {[]int{-5, -7}, -5, true}, {[]int{math.MinInt}, math.MinInt, true},
		{[]int{2, math.MaxInt, 2}, math.MaxInt, true}, {[]int{0}, 0, true}, {[]int{9, 1}, 9, true},
	} {
		if v, ok := waits.Victim(c.l); v != c.want || ok != c.ok {
			t.Fatal(c, v, ok)
		}
	}
}

func TestSpread(t *testing.T) { // P10.1: the digests that were handed in count
	in := []uint64{1 << 63, 8, 0, 0}
	arcs := [][2]int{{0, 1}, {1, 2}, {2, 0}, {2, 0}}
	d, e := waits.Spread(in, arcs)
	if !slices.Equal(d, []uint64{1<<63 | 8 | 2, 8 | 4, 1<<63 | 1, 0}) || e != api.OK {
		t.Fatal(d, e)
	}
	if in[0] != 1<<63 || in[1] != 8 || in[2] != 0 {
		t.Fatal("changed", in)
	}
	if d, e := waits.Spread(nil, nil); len(d) != 0 || e != api.OK {
		t.Fatal(d, e)
	}
	spare := append(make([]uint64, 0, 8), 1, 2)
	d, _ = waits.Spread(spare, nil)
	d[0] = 77
	if spare[0] != 1 || !slices.Equal(spare[:3], []uint64{1, 2, 0}) {
		t.Fatal("shared")
	}
}

func TestWrong(t *testing.T) { // P10.1
	for _, n := range []int{math.MinInt, -1, 65, 66, math.MaxInt} {
		if d, e := waits.Digests(n, nil); d != nil || e != api.ErrArg {
			t.Fatal(n, d, e)
		}
		if l, e := waits.Circle(n, nil, 0); l != nil || e != api.ErrArg {
			t.Fatal(n, l, e)
		}
	}
	if d, e := waits.Spread(make([]uint64, 65), nil); d != nil || e != api.ErrArg {
		t.Fatal(d, e)
	}
	for _, a := range [][2]int{{-1, 0}, {0, -1}, {3, 0}, {0, 3}, {math.MaxInt, 0}, {0, math.MinInt}} {
		arcs := [][2]int{{0, 1}, a}
		if d, e := waits.Digests(3, arcs); d != nil || e != api.ErrArg {
			t.Fatal(a, d, e)
		}
		if d, e := waits.Spread(make([]uint64, 3), arcs); d != nil || e != api.ErrArg {
			t.Fatal(a, d, e)
		}
		if l, e := waits.Circle(3, arcs, 0); l != nil || e != api.ErrArg {
			t.Fatal(a, l, e)
		}
	}
	if d, e := waits.Digests(0, [][2]int{{0, 0}}); d != nil || e != api.ErrArg {
		t.Fatal(d, e)
	}
	for _, x := range []int{math.MinInt, -1, 3, math.MaxInt} {
		if l, e := waits.Circle(3, nil, x); l != nil || e != api.ErrArg {
			t.Fatal(x, l, e)
		}
	}
	if l, e := waits.Circle(0, nil, 0); l != nil || e != api.ErrArg {
		t.Fatal(l, e)
	}
}

func TestMost(t *testing.T) { // P10.1, P10.2: 64 things in one circle
	var arcs [][2]int
	for i := range 64 {
		arcs = append(arcs, [2]int{i, (i + 1) % 64})
	}
	d, e := waits.Digests(64, arcs)
	if e != api.OK {
		t.Fatal(e)
	}
	for i := range 64 {
		if d[i] != math.MaxUint64 {
			t.Fatal(i, d[i])
		}
	}
	l, e := waits.Circle(64, arcs, 63)
	if e != api.OK || len(l) != 64 || l[0] != 63 || l[1] != 0 || l[63] != 62 {
		t.Fatal(l, e)
	}
	if l, _ := waits.Circle(64, arcs[:63], 0); len(l) != 0 {
		t.Fatal(l)
	}
	if d, _ := waits.Digests(64, [][2]int{{63, 62}}); d[63] != 1<<62 {
		t.Fatal(d)
	}
}

// walk goes through all ways from the end of a list back to its beginning, the least first, and keeps the best.
func walk(to [][]int, l []int, best *[]int) {
	if len(*best) > 0 && len(l) > len(*best) {
		return
	}
	for _, y := range to[l[len(l)-1]] {
		if y == l[0] && (len(*best) == 0 || len(l) < len(*best) || len(l) == len(*best) && slices.Compare(l, *best) < 0) {
			*best = slices.Clone(l)
		}
		if !slices.Contains(l, y) {
			walk(to, append(slices.Clone(l), y), best)
		}
	}
}

func reach(to [][]int, x int, seen uint64) uint64 {
	for _, y := range to[x] {
		if seen>>y&1 == 0 {
			seen = reach(to, y, seen|1<<y)
		}
	}
	return seen
}

func TestManyArcs(t *testing.T) { // P10.1, P10.2
	seed := uint64(31)
	next := func(n int) int {
		seed = seed*6364136223846793005 + 1442695040888963407
		return int(seed>>33) % n
	}
	for range 3000 {
		n := 1 + next(7)
		to := make([][]int, n)
		var arcs [][2]int
		for range next(3 * n) {
			a := [2]int{next(n), next(n)}
			arcs = append(arcs, a)
			to[a[0]] = append(to[a[0]], a[1])
		}
		before := slices.Clone(arcs)
		d, e := waits.Digests(n, arcs)
		if e != api.OK {
			t.Fatal(e)
		}
		spread := make([]uint64, n)
		for range n {
			spread, _ = waits.Spread(spread, arcs)
		}
		if !slices.Equal(d, spread) {
			t.Fatal(arcs, "n rounds don't end at Digests", d, spread)
		}
		for x := range n {
			if d[x] != reach(to, x, 0) {
				t.Fatal(arcs, x, d[x])
			}
			var best []int
			walk(to, []int{x}, &best)
			l, e := waits.Circle(n, arcs, x)
			if e != api.OK || !slices.Equal(l, best) {
				t.Fatal(arcs, x, l, best)
			}
			if (len(l) > 0) != (d[x]>>x&1 == 1) {
				t.Fatal(arcs, x)
			}
		}
		if !slices.Equal(arcs, before) {
			t.Fatal("changed")
		}
	}
}
