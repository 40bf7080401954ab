package node_test

import (
	"math"
	"sort"
	"strings"
	"testing"

	"jetty/api"
	"jetty/node"
)

func text(n int) string { return strings.Repeat("k", n) }

// cell: a key and what stands behind it, by hand.
func cell(state int, key, rest string) api.Cell {
	return api.Cell{State: state, Data: string([]byte{byte(len(key))}) + key + rest}
}

func number(child int) string {
	return string([]byte{byte(child), byte(child >> 8), byte(child >> 16), byte(child >> 24)})
}

func leaf(keys ...string) api.Page {
	p := api.Page{Kind: api.PageNode, Store: 3, Next: 9}
	for i, k := range keys {
		p.Cells[i] = cell(api.Live, k, "v"+k)
	}
	return p
}

// inner: an inner node with these keys, its children 4, 5, ..
func inner(keys ...string) api.Page {
	p := api.Page{Kind: api.PageNode, Level: 2, Store: 3}
	for i, k := range keys {
		p.Cells[i] = cell(api.Live, k, number(4+i))
	}
	return p
}

func TestLeaf(t *testing.T) { // P5.1
	for _, state := range []int{math.MinInt, -1, 0, 1, 2, 3, math.MaxInt} {
		for _, k := range []int{0, 1, 8, 9, 256, 257, 264} {
			for _, v := range []int{0, 1, 20, 21, 300} {
				c, e := node.Leaf(text(k), strings.Repeat("v", v), state)
				if (state == 1 || state == 2) && k >= 1 && k <= 8 && v <= 20 {
					if e != api.OK || c != cell(state, text(k), strings.Repeat("v", v)) {
						t.Fatal(state, k, v, c, e)
					}
				} else if e != api.ErrArg || c != (api.Cell{}) {
					t.Fatal(state, k, v, c, e)
				}
			}
		}
	}
}

func TestInner(t *testing.T) { // P5.1
	for _, child := range []int{math.MinInt, -1, 0, 1, 2, 255, 256, 258, 1023, 1024, 1 << 32, 1<<32 + 1, math.MaxInt} {
		for _, k := range []int{0, 1, 8, 9, 256} {
			c, e := node.Inner(text(k), child)
			if child >= 1 && child <= 1023 && k <= 8 {
				if e != api.OK || c != cell(api.Live, text(k), number(child)) || node.Child(c) != child {
					t.Fatal(child, k, c, e)
				}
			} else if e != api.ErrArg || c != (api.Cell{}) {
				t.Fatal(child, k, c, e)
			}
		}
	}
}

func TestKeyAndChild(t *testing.T) { // P5.1
	for _, c := range []struct {
		c         api.Cell
		key, rest string
		ok        bool
		child     int
	}{
		{api.Cell{}, "", "", false, 0},
		{api.Cell{State: 1}, "", "", false, 0},
		{api.Cell{State: 0, Data: "\x01a"}, "", "", false, 0},
		{cell(0, "a", number(5)), "", "", false, 0},
		{cell(1, "a", number(5)), "a", number(5), true, 5},
		{cell(2, "a", number(5)), "a", number(5), true, 5},
		{cell(-7, "", number(1023)), "", number(1023), true, 1023},
		{cell(99, "ab", number(1)), "ab", number(1), true, 1},
		{cell(1, "a", number(0)), "a", number(0), true, 0},
		{cell(1, "a", number(1024)), "a", number(1024), true, 0},
		{cell(1, "a", "\x01\x00\x00\x01"), "a", "\x01\x00\x00\x01", true, 0},
		{cell(1, "a", "\xff\xff\xff\xff"), "a", "\xff\xff\xff\xff", true, 0},
		{cell(1, "a", "\x01\x00\x00"), "a", "\x01\x00\x00", true, 0},
		{cell(1, "a", number(5)+"\x00"), "a", number(5) + "\x00", true, 0},
		{cell(1, "a", ""), "a", "", true, 0},
		{cell(1, "", ""), "", "", true, 0},
		{cell(1, text(8), "x"), text(8), "x", true, 0},
		{cell(1, text(9), "x"), "", "", false, 0},
		{cell(1, text(9), number(5)), "", "", false, 0},
		{api.Cell{State: 1, Data: "\x02a"}, "", "", false, 0},
		{api.Cell{State: 1, Data: "\x02ab"}, "ab", "", true, 0},
		{api.Cell{State: 1, Data: "\xff" + text(300)}, "", "", false, 0},
		{cell(1, "a", strings.Repeat("r", 100)), "a", strings.Repeat("r", 100), true, 0},
	} {
		if k, r, ok := node.Key(c.c); k != c.key || r != c.rest || ok != c.ok {
			t.Fatalf("%+v: %q, %q, %v", c.c, k, r, ok)
		}
		if n := node.Child(c.c); n != c.child {
			t.Fatalf("%+v: %d", c.c, n)
		}
	}
}

func change(p api.Page, f func(*api.Page)) api.Page {
	f(&p)
	return p
}

func TestCheck(t *testing.T) { // P5.1
	six := leaf("a", "b", "c", "d", "e", "f")
	good := []api.Page{
		{Kind: api.PageNode}, leaf("a"), leaf("b", "d"), six, leaf("\x00", "\xff"), leaf("a", "aa"), leaf(text(8)),
		inner(""), inner("", "c"), inner("", "a", "b", "c", "d", "e"), inner("", text(8)),
		change(leaf("a"), func(p *api.Page) { p.Cells[0].State = api.Ghost }),
		change(leaf("a"), func(p *api.Page) { p.Store, p.Next = -5, 1<<40 }),
		change(inner("", "c"), func(p *api.Page) { p.Level = 1000 }),
		change(leaf("a"), func(p *api.Page) { p.Cells[0] = cell(1, "a", strings.Repeat("v", 20)) }),
		change(leaf("a"), func(p *api.Page) { p.Cells[0] = cell(1, "a", "") }),
	}
	for _, p := range good {
		if e := node.Check(p); e != api.OK {
			t.Fatalf("%+v: %d", p, e)
		}
	}
	bad := []api.Page{
		{}, {Kind: api.PageHeap}, {Kind: 5}, {Kind: api.PageNode, Level: -1}, {Kind: api.PageNode, Level: 1},
		leaf("b", "a"), leaf("a", "a"), leaf(""), leaf("", "a"), leaf(text(9)), leaf("a", "c", "b"),
		inner("a"), inner("a", "b"), inner("", ""), inner("", "b", "a"), inner("", "b", "b"), inner("", text(9)),
		change(leaf("a"), func(p *api.Page) { p.Cells[1].Data = "x" }),
		change(leaf("a"), func(p *api.Page) { p.Cells[5].Data = "\x00" }),
		change(leaf("a"), func(p *api.Page) { p.Cells[2] = cell(1, "c", "") }),
		change(leaf("a"), func(p *api.Page) { p.Cells[2].State = api.Live }),
		change(leaf("a"), func(p *api.Page) { p.Cells[5].State = api.Ghost }),
		change(leaf("a"), func(p *api.Page) { p.Cells[0].State = 3 }),
		change(leaf("a"), func(p *api.Page) { p.Cells[0].State = -1 }),
		change(leaf("a"), func(p *api.Page) { p.Cells[0] = cell(1, "a", strings.Repeat("v", 21)) }),
		change(leaf("a"), func(p *api.Page) { p.Cells[0] = api.Cell{State: 1} }),
		change(leaf("a"), func(p *api.Page) { p.Cells[0] = api.Cell{State: 1, Data: "\x05a"} }),
		change(leaf("a"), func(p *api.Page) { p.Level = 1 }),
		change(inner("", "c"), func(p *api.Page) { p.Level = 0 }),
		change(inner("", "c"), func(p *api.Page) { p.Level = -2 }),
		change(inner("", "c"), func(p *api.Page) { p.Cells[1].State = api.Ghost }),
		change(inner("", "c"), func(p *api.Page) { p.Cells[0].State = api.Ghost }),
		change(inner("", "c"), func(p *api.Page) { p.Cells[1] = cell(1, "c", number(0)) }),
		change(inner("", "c"), func(p *api.Page) { p.Cells[0] = cell(1, "", number(1024)) }),
		change(inner("", "c"), func(p *api.Page) { p.Cells[1] = cell(1, "c", "abc") }),
		change(inner("", "c"), func(p *api.Page) { p.Cells[1] = cell(1, "c", number(4)+"x") }),
	}
	for i, p := range bad {
		if e := node.Check(p); e != api.ErrForm {
			t.Fatalf("%d: %+v: %d", i, p, e)
		}
	}
}

func TestFindAndDown(t *testing.T) { // P5.1
	for _, c := range []struct {
		p     api.Page
		key   string
		i     int
		there bool
		down  int
	}{
		{leaf("b", "d"), "c", 1, false, 0}, {leaf("b", "d"), "d", 1, true, 1}, {leaf("b", "d"), "e", 2, false, 1},
		{leaf("b", "d"), "a", 0, false, 0}, {leaf("b", "d"), "b", 0, true, 0}, {leaf("b", "d"), "", 0, false, 0},
		{leaf("b", "d"), "ba", 1, false, 0}, {leaf("b", "d"), strings.Repeat("z", 99), 2, false, 1},
		{leaf(), "a", 0, false, 0}, {leaf(), "", 0, false, 0},
		{inner("", "c"), "a", 1, false, 0}, {inner("", "c"), "c", 1, true, 1}, {inner("", "c"), "d", 2, false, 1}, {inner("", "c"), "", 0, true, 0},
		{leaf("a", "b", "c", "d", "e", "f"), "g", 6, false, 5},
		{change(leaf("b", "d", "f"), func(p *api.Page) { p.Cells[1] = api.Cell{} }), "f", 1, false, 0},
		{change(leaf("b"), func(p *api.Page) { p.Cells[0] = api.Cell{State: 1} }), "", 0, true, 0},
		{change(leaf("b"), func(p *api.Page) { p.Cells[0] = api.Cell{State: 1} }), "a", 1, false, 0},
		{change(leaf("d", "b"), func(p *api.Page) { p.Kind = 0 }), "c", 0, false, 0},
	} {
		if i, there := node.Find(c.p, c.key); i != c.i || there != c.there {
			t.Fatalf("%+v %q: %d, %v", c.p, c.key, i, there)
		}
		if i := node.Down(c.p, c.key); i != c.down {
			t.Fatalf("%+v %q: down %d", c.p, c.key, i)
		}
	}
}

func TestCount(t *testing.T) { // P5.1
	for mask := range 64 {
		var p api.Page
		want := 6
		for i := range p.Cells {
			if mask>>i&1 == 0 {
				p.Cells[i].State = 0
				want = min(want, i)
			} else {
				p.Cells[i].State = i - 8
			}
		}
		if n := node.Count(p); n != want {
			t.Fatal(mask, n)
		}
	}
}

func TestPut(t *testing.T) { // P5.1
	c := cell(api.Ghost, "c", "x")
	got, e := node.Put(leaf("b", "d"), c)
	want := leaf("b", "c", "d")
	want.Cells[1] = c
	if e != api.OK || got != want {
		t.Fatalf("%+v, %d", got, e)
	}
	old := change(leaf("b", "d"), func(p *api.Page) {
		p.Cells[3] = cell(1, "z", "") // behind a Free one: not looked at
		p.Cells[2].Data = "junk"
		p.Kind = 77
	})
	want.Cells[3], want.Cells[2], want.Kind = cell(1, "z", ""), leaf("b", "d").Cells[1], 77
	if got, e = node.Put(old, c); e != api.OK || got != want {
		t.Fatalf("%+v, %d", got, e)
	}
	full := leaf("a", "b", "d", "e", "f", "g")
	for _, x := range []struct {
		p api.Page
		c api.Cell
		e api.Errno
	}{
		{leaf("b"), api.Cell{}, api.ErrArg}, {leaf("b"), api.Cell{State: 1, Data: "\x02a"}, api.ErrArg}, {full, cell(0, "c", ""), api.ErrArg},
		{leaf("b"), cell(1, text(9), ""), api.ErrArg},
		{leaf("b"), cell(1, "b", "other"), api.ErrThere}, {full, cell(1, "d", ""), api.ErrThere}, {full, cell(1, "c", ""), api.ErrSpace},
		{full, cell(2, "z", ""), api.ErrSpace},
		{leaf("b"), cell(9, "", ""), api.OK},
	} {
		if p, e := node.Put(x.p, x.c); e != x.e || e != api.OK && p != (api.Page{}) {
			t.Fatalf("%+v: %d", x, e)
		}
	}
}

func TestTake(t *testing.T) { // P5.1
	p := leaf("a", "b", "c")
	for i, want := range []api.Page{leaf("b", "c"), leaf("a", "c"), leaf("a", "b")} {
		if got, e := node.Take(p, i); got != want || e != api.OK {
			t.Fatalf("%d: %+v, %d", i, got, e)
		}
	}
	for _, i := range []int{math.MinInt, -1, 3, 4, 5, 6, math.MaxInt} {
		if got, e := node.Take(p, i); got != (api.Page{}) || e != api.ErrArg {
			t.Fatal(i, e)
		}
	}
	six := leaf("a", "b", "c", "d", "e", "f")
	if got, e := node.Take(six, 5); got != leaf("a", "b", "c", "d", "e") || e != api.OK {
		t.Fatal(got, e)
	}
	if got, e := node.Take(six, 0); got != leaf("b", "c", "d", "e", "f") || e != api.OK {
		t.Fatal(got, e)
	}
	gap := change(leaf("a", "b"), func(p *api.Page) { p.Cells[4] = cell(1, "z", "") })
	want := change(leaf("a"), func(p *api.Page) { p.Cells[4] = cell(1, "z", "") })
	if got, e := node.Take(gap, 1); got != want || e != api.OK {
		t.Fatal(got, e)
	}
	if _, e := node.Take(gap, 4); e != api.ErrArg {
		t.Fatal(e)
	}
}

func TestSplit(t *testing.T) { // P5.1
	keys := []string{"a", "b", "c", "d", "e", "f"}
	for n := 2; n <= 6; n++ {
		half := []int{0, 0, 1, 2, 2, 3, 3}[n]
		low, high, key, e := node.Split(leaf(keys[:n]...))
		if e != api.OK || low != leaf(keys[:half]...) || high != leaf(keys[half:n]...) || key != keys[half] {
			t.Fatalf("%d: %+v, %+v, %q, %d", n, low, high, key, e)
		}
	}
	low, high, key, e := node.Split(inner("", "c"))
	if e != api.OK || low != inner("") || key != "c" || high.Cells != [6]api.Cell{cell(1, "", number(5))} || high.Level != 2 || high.Store != 3 {
		t.Fatalf("%+v, %+v, %q, %d", low, high, key, e)
	}
	low, high, key, e = node.Split(inner("", "b", "c", "d", "e"))
	if e != api.OK || low != inner("", "b", "c") || key != "d" || high.Cells != [6]api.Cell{cell(1, "", number(7)), cell(1, "e", number(8))} {
		t.Fatalf("%+v, %+v, %q, %d", low, high, key, e)
	}
	for _, p := range []api.Page{leaf(), leaf("a"), {}, inner("")} {
		if low, high, key, e := node.Split(p); low != (api.Page{}) || high != (api.Page{}) || key != "" || e != api.ErrArg {
			t.Fatal(e)
		}
	}
	odd := change(leaf("a", "b", "c"), func(p *api.Page) { // what says no key, and a negative level
		p.Level, p.Kind = -3, 9
		p.Cells[2] = api.Cell{State: 7, Data: "\x09"}
		p.Cells[3].Data, p.Cells[4] = "junk", cell(1, "z", "")
	})
	low, high, key, e = node.Split(odd)
	if e != api.OK || key != "" || high.Cells != [6]api.Cell{{State: 7, Data: "\x00"}} || low.Cells != leaf("a", "b").Cells || low.Level != -3 || high.Kind != 9 {
		t.Fatalf("%+v, %+v, %q, %d", low, high, key, e)
	}
	odd.Level = 0
	if _, high, _, _ = node.Split(odd); high.Cells != [6]api.Cell{{State: 7, Data: "\x09"}} {
		t.Fatalf("%+v", high)
	}
}

func keysOf(p api.Page) []string {
	var l []string
	for i := range node.Count(p) {
		k, _, _ := node.Key(p.Cells[i])
		l = append(l, k)
	}
	return l
}

func TestNodesStayNodes(t *testing.T) { // P5.2
	seed := uint64(5)
	next := func(n int) int {
		seed = seed*6364136223846793005 + 1442695040888963407
		return int(seed>>33) % n
	}
	for range 3000 {
		p, have := api.Page{Kind: api.PageNode, Next: 7}, map[string]api.Cell{}
		for range 20 {
			key := string([]byte{byte(next(256))}) + strings.Repeat("x", next(8))
			c, _ := node.Leaf(key, strings.Repeat("v", next(21)), 1+next(2))
			if next(3) == 0 && len(have) > 0 {
				i := next(len(have))
				delete(have, keysOf(p)[i])
				p, _ = node.Take(p, i)
			} else if _, there := have[key]; !there && len(have) < 6 {
				p, _ = node.Put(p, c)
				have[key] = c
			}
			checkSame(t, p, have)
		}
		if len(have) < 2 {
			continue
		}
		low, high, key, e := node.Split(p)
		if e != api.OK || node.Check(low) != api.OK || node.Check(high) != api.OK {
			t.Fatal(e)
		}
		all := map[string]api.Cell{}
		for _, half := range []api.Page{low, high} {
			for i, k := range keysOf(half) {
				all[k] = half.Cells[i]
				if (k < key) != (half == low) {
					t.Fatal(k, key)
				}
			}
		}
		checkSame(t, p, all)
	}
	for n := 2; n <= 6; n++ {
		p := inner([]string{"", "b", "c", "d", "e", "f"}[:n]...)
		low, high, _, _ := node.Split(p)
		if node.Check(low) != api.OK || node.Check(high) != api.OK || node.Count(low)+node.Count(high) != n {
			t.Fatal(n)
		}
	}
	p := inner("", "b")
	c, _ := node.Inner("a", 9)
	if p, e := node.Put(p, c); e != api.OK || node.Check(p) != api.OK || strings.Join(keysOf(p), ",") != ",a,b" {
		t.Fatal(e)
	}
}

func checkSame(t *testing.T, p api.Page, have map[string]api.Cell) {
	t.Helper()
	if e := node.Check(p); e != api.OK {
		t.Fatalf("%+v: %d", p, e)
	}
	var keys []string
	for k := range have {
		keys = append(keys, k)
	}
	sort.Strings(keys)
	if node.Count(p) != len(keys) || p.Next != 7 {
		t.Fatalf("%+v, not %q", p, keys)
	}
	for i, k := range keys {
		if p.Cells[i] != have[k] {
			t.Fatalf("%+v, not %q", p, keys)
		}
		if j, there := node.Find(p, k); j != i || !there {
			t.Fatal(k, j, there)
		}
	}
}
