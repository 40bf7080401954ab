package heap_test

import (
	"math"
	"slices"
	"sort"
	"strings"
	"testing"

	"jetty/api"
	"jetty/heap"
	"jetty/space"
	"jetty/stage"
)

// volume: a new one, store 1 a heap (root 2).
func volume(t *testing.T, pages int) *stage.Stage {
	t.Helper()
	m, e := stage.Memory(pages)
	if e != api.OK {
		t.Fatal(e)
	}
	s := stage.New(m)
	if e := space.Format(s, pages); e != api.OK {
		t.Fatal(e)
	}
	if n, e := space.Make(s, api.Heap); n != 1 || e != api.OK {
		t.Fatal(n, e)
	}
	return s
}

func page(t *testing.T, s *stage.Stage, id int) api.Page {
	t.Helper()
	p, e := s.Get(id)
	if e != api.OK {
		t.Fatal(e)
	}
	return p
}

func insert(t *testing.T, s *stage.Stage, val string, want int, before api.Cell, keep ...int) {
	t.Helper()
	id, u, e := heap.Insert(s, 1, val, keep)
	if id != want || e != api.OK || u != (api.Undo{Kind: api.UndoCell, Page: want / 8, Slot: want % 8, Before: before}) {
		t.Fatal(id, u, e)
	}
}

func list(t *testing.T, s *stage.Stage, want ...api.Pair) {
	t.Helper()
	if l, e := heap.List(s, 1); e != api.OK || !slices.Equal(l, want) {
		t.Fatal(l, e)
	}
}

func TestExample(t *testing.T) { // P15.1
	for _, keep := range [][]int{nil, {16}} {
		s := volume(t, 8)
		insert(t, s, "a", 16, api.Cell{})
		insert(t, s, "b", 17, api.Cell{})
		u, e := heap.Delete(s, 1, 16)
		if e != api.OK || u != (api.Undo{Kind: api.UndoCell, Page: 2, Slot: 0, Before: api.Cell{State: api.Live, Data: "a"}}) {
			t.Fatal(u, e)
		}
		if c := page(t, s, 2).Cells[0]; c != (api.Cell{State: api.Ghost, Data: "a"}) {
			t.Fatal(c)
		}
		if keep == nil {
			insert(t, s, "c", 16, api.Cell{State: api.Ghost, Data: "a"})
			list(t, s, api.Pair{Id: 16, Val: "c"}, api.Pair{Id: 17, Val: "b"})
		} else {
			insert(t, s, "c", 18, api.Cell{}, keep...)
			list(t, s, api.Pair{Id: 17, Val: "b"}, api.Pair{Id: 18, Val: "c"})
		}
		if v, e := heap.Read(s, 1, 99); v != "" || e != api.ErrNone {
			t.Fatal(v, e)
		}
	}
}

func TestId(t *testing.T) { // P15.1
	for _, c := range [][3]int{{0, 0, 0}, {2, 0, 16}, {2, 5, 21}, {1023, 5, 8189}, {3, 7, 31}, {-1, 2, -6}} {
		if id := heap.Id(c[0], c[1]); id != c[2] {
			t.Fatal(c, id)
		}
	}
}

func TestLong(t *testing.T) { // P15.1
	s := volume(t, 8)
	at, long := strings.Repeat("x", 32), strings.Repeat("x", 33)
	insert(t, s, at, 16, api.Cell{})
	insert(t, s, "", 17, api.Cell{})
	for _, store := range []int{1, 2, -1} { // ahead of all else
		if id, u, e := heap.Insert(s, store, long, nil); id != 0 || u != (api.Undo{}) || e != api.ErrLong {
			t.Fatal(id, e)
		}
		if u, e := heap.Update(s, store, 999, long); u != (api.Undo{}) || e != api.ErrLong {
			t.Fatal(e)
		}
	}
	if _, _, e := heap.Insert(nil, 1, long, nil); e != api.ErrLong {
		t.Fatal(e)
	}
	u, e := heap.Update(s, 1, 17, at)
	if e != api.OK || u != (api.Undo{Kind: api.UndoCell, Page: 2, Slot: 1, Before: api.Cell{State: api.Live}}) {
		t.Fatal(u, e)
	}
	if v, e := heap.Read(s, 1, 17); v != at || e != api.OK {
		t.Fatal(v, e)
	}
	if u, e := heap.Update(s, 1, 16, ""); e != api.OK || u.Before.Data != at {
		t.Fatal(e)
	}
	list(t, s, api.Pair{Id: 16}, api.Pair{Id: 17, Val: at})
}

func TestNoRecord(t *testing.T) { // P15.1
	s := volume(t, 8)
	insert(t, s, "a", 16, api.Cell{})
	insert(t, s, "b", 17, api.Cell{})
	heap.Delete(s, 1, 17)
	before := page(t, s, 2)
	for _, id := range []int{math.MinInt, -1, -8, -16, 0, 8, 15, 17, 18, 21, 22, 23, 24, 999999, math.MaxInt} {
		if v, e := heap.Read(s, 1, id); v != "" || e != api.ErrNone {
			t.Fatal(id, v, e)
		}
		if u, e := heap.Update(s, 1, id, "z"); u != (api.Undo{}) || e != api.ErrNone {
			t.Fatal(id, e)
		}
		if u, e := heap.Delete(s, 1, id); u != (api.Undo{}) || e != api.ErrNone {
			t.Fatal(id, e)
		}
	}
	if page(t, s, 2) != before {
		t.Fatal("changed")
	}
}

func TestNoHeap(t *testing.T) { // P15.1
	s := volume(t, 12)
	space.Make(s, api.Index)
	space.Make(s, api.Object)
	space.Make(s, api.Heap)
	space.State(s, 4, api.Ghost)
	check := func(s *stage.Stage, store int, want api.Errno) {
		t.Helper()
		if id, u, e := heap.Insert(s, store, "a", nil); id != 0 || u != (api.Undo{}) || e != want {
			t.Fatal(store, e)
		}
		if v, e := heap.Read(s, store, 16); v != "" || e != want {
			t.Fatal(store, e)
		}
		if u, e := heap.Update(s, store, 16, "a"); u != (api.Undo{}) || e != want {
			t.Fatal(store, e)
		}
		if u, e := heap.Delete(s, store, 16); u != (api.Undo{}) || e != want {
			t.Fatal(store, e)
		}
		if l, e := heap.List(s, store); l != nil || e != want {
			t.Fatal(store, e)
		}
	}
	for _, store := range []int{math.MinInt, -1, 0, 2, 3, 4, 5, 7, math.MaxInt} {
		check(s, store, api.ErrStore)
	}
	check(nil, 1, api.ErrArg)
	check(stage.New(nil), 1, api.ErrArg)
	d := page(t, s, 0)
	d.Cells[0].Data = "\x01"
	s.Set(0, d)
	check(s, 1, api.ErrForm)
	d.Kind = api.PageHeap
	s.Set(0, d)
	check(s, 1, api.ErrForm)
}

func TestGrow(t *testing.T) { // P15.1
	s := volume(t, 10)
	var want []api.Pair
	for i := range 18 {
		id := 8*(2+i/6) + i%6
		insert(t, s, string([]byte{byte('a' + i)}), id, api.Cell{})
		want = append(want, api.Pair{Id: id, Val: string([]byte{byte('a' + i)})})
	}
	list(t, s, want...)
	for id, next := range []int{2: 3, 3: 4, 4: 0} {
		p := page(t, s, id)
		if id > 1 && (p.Next != next || p.Kind != api.PageHeap || p.Store != 1 || p.Level != 0) {
			t.Fatal(id, p)
		}
	}
	if l, _, _ := space.Used(s); !slices.Equal(l, []int{0, 1, 2, 3, 4}) {
		t.Fatal(l)
	}
}

func TestOldPageIsWiped(t *testing.T) { // P15.1: a page that is taken has no cells
	s := volume(t, 10)
	old := api.Page{Kind: api.PageNode, Level: 3, Store: 9, Next: 7}
	old.Cells[0] = api.Cell{State: api.Live, Data: "old"}
	s.Set(3, old)
	for i := range 7 {
		insert(t, s, "x", 8*(2+i/6)+i%6, api.Cell{})
	}
	if p := page(t, s, 3); p != (api.Page{Kind: api.PageHeap, Store: 1, Cells: [6]api.Cell{{State: api.Live, Data: "x"}}}) {
		t.Fatal(p)
	}
}

func TestKeep(t *testing.T) { // P15.1
	ids := func(from, to int) []int {
		var l []int
		for p := from; p <= to; p++ {
			for slot := range 6 {
				l = append(l, heap.Id(p, slot))
			}
		}
		return l
	}
	s := volume(t, 20)
	insert(t, s, "a", 24, api.Cell{}, ids(2, 2)...)
	insert(t, s, "b", 16, api.Cell{}, 24, 1000, -5, 17, 18)
	s = volume(t, 20)
	insert(t, s, "a", 43, api.Cell{}, append(ids(2, 4), 40, 41, 42)...) // page 5: the third new one
	if l, _, _ := space.Used(s); !slices.Equal(l, []int{0, 1, 2, 3, 4, 5}) {
		t.Fatal(l)
	}
	insert(t, s, "b", 16, api.Cell{})
	s = volume(t, 20)
	insert(t, s, "a", 48, api.Cell{}, ids(2, 5)...) // the fourth
	s = volume(t, 20)
	keep := ids(2, 6)
	if id, u, e := heap.Insert(s, 1, "a", keep); id != 0 || u != (api.Undo{}) || e != api.ErrSpace {
		t.Fatal("a fifth one", id, e)
	}
	if !slices.Equal(keep, ids(2, 6)) {
		t.Fatal("changed")
	}
	s = volume(t, 4)
	insert(t, s, "a", 24, api.Cell{}, ids(2, 2)...)
	if id, u, e := heap.Insert(s, 1, "b", ids(2, 3)); id != 0 || u != (api.Undo{}) || e != api.ErrSpace {
		t.Fatal("no page is left", id, e)
	}
}

func TestListInOrder(t *testing.T) { // P15.1: by ids, whatever the chain's order
	s := volume(t, 10)
	a, b := page(t, s, 2), api.Page{Kind: api.PageHeap, Store: 1}
	b.Cells[1], b.Cells[2], b.Next = api.Cell{State: api.Live, Data: "b"}, api.Cell{State: api.Ghost, Data: "g"}, 3
	a.Cells[5], a.Next = api.Cell{State: api.Live, Data: "a"}, 7
	c := api.Page{Kind: api.PageHeap, Store: 1}
	c.Cells[0] = api.Cell{State: api.Live, Data: "c"}
	s.Set(2, a)
	s.Set(7, b)
	s.Set(3, c)
	list(t, s, api.Pair{Id: 21, Val: "a"}, api.Pair{Id: 24, Val: "c"}, api.Pair{Id: 57, Val: "b"})
	insert(t, s, "x", 16, api.Cell{})
	insert(t, s, "y", 56, api.Cell{}, 17, 18, 19, 20)
	insert(t, s, "z", 58, api.Cell{State: api.Ghost, Data: "g"}, 17, 18, 19, 20)
}

func TestBrokenChains(t *testing.T) { // P15.1: up to where a call goes
	for _, x := range []struct {
		name string
		next api.Page
		want api.Errno
	}{
		{"another kind", api.Page{Kind: api.PageNode, Store: 1}, api.ErrForm},
		{"another store", api.Page{Kind: api.PageHeap, Store: 2}, api.ErrForm},
		{"a circle", api.Page{Kind: api.PageHeap, Store: 1, Next: 2}, api.ErrForm},
		{"a circle of one", api.Page{Kind: api.PageHeap, Store: 1, Next: 3}, api.ErrForm},
		{"a page that isn't", api.Page{Kind: api.PageHeap, Store: 1, Next: 999}, api.ErrArg},
	} {
		s := volume(t, 10)
		p := page(t, s, 2)
		p.Cells[0], p.Next = api.Cell{State: api.Live, Data: "a"}, 3
		for i := 1; i < 6; i++ {
			p.Cells[i] = api.Cell{State: api.Live}
		}
		for i := range x.next.Cells {
			x.next.Cells[i] = api.Cell{State: api.Live, Data: "b"}
		}
		s.Set(2, p)
		s.Set(3, x.next)
		if v, e := heap.Read(s, 1, 16); v != "a" || e != api.OK {
			t.Fatal(x.name, v, e)
		}
		for _, id := range []int{32, -1, 22} {
			if v, e := heap.Read(s, 1, id); v != "" || e != x.want {
				t.Fatal(x.name, v, e)
			}
			if _, e := heap.Update(s, 1, id, "c"); e != x.want {
				t.Fatal(x.name, e)
			}
			if _, e := heap.Delete(s, 1, id); e != x.want {
				t.Fatal(x.name, e)
			}
		}
		if l, e := heap.List(s, 1); l != nil || e != x.want {
			t.Fatal(x.name, e)
		}
		if _, _, e := heap.Insert(s, 1, "d", nil); e != x.want {
			t.Fatal(x.name, e)
		}
		if u, e := heap.Delete(s, 1, 17); u.Slot != 1 || e != api.OK {
			t.Fatal(x.name, e)
		}
		insert(t, s, "e", 17, api.Cell{State: api.Ghost})
	}
	// As many pages as there may be: the chain ends at the last one.
	long := stage.New(nil)
	long.Set(0, api.Page{Kind: api.PageDir, Cells: [6]api.Cell{{State: api.Live, Data: "\x01\x00\x00\x00\x00"}}})
	for id := range api.MaxPages {
		if id > 0 {
			long.Set(id, api.Page{Kind: api.PageHeap, Store: 1, Next: (id + 1) % api.MaxPages})
		}
	}
	d := page(t, long, 0)
	d.Cells[0].Data = "\x01\x01\x00\x00\x00"
	long.Set(0, d)
	if l, e := heap.List(long, 1); len(l) != 0 || e != api.OK {
		t.Fatal(e)
	}
	if v, e := heap.Read(long, 1, 5); v != "" || e != api.ErrNone {
		t.Fatal(v, e)
	}
}

func TestRestore(t *testing.T) { // P15.1
	s := volume(t, 8)
	for _, u := range []api.Undo{
		{}, {Kind: api.UndoKey, Page: 2}, {Kind: api.UndoDir, Page: 2}, {Kind: -1, Page: 2}, {Kind: 4, Page: 2},
		{Kind: api.UndoCell, Page: 2, Slot: -1}, {Kind: api.UndoCell, Page: 2, Slot: 6}, {Kind: api.UndoCell, Page: 2, Slot: math.MaxInt},
		{Kind: api.UndoCell, Page: 8}, {Kind: api.UndoCell, Page: -1}, {Kind: api.UndoCell, Page: math.MaxInt},
		{Kind: api.UndoCell, Page: 2, Before: api.Cell{Data: "x"}}, {Kind: api.UndoCell, Page: 2, Before: api.Cell{State: 3}},
		{Kind: api.UndoCell, Page: 2, Before: api.Cell{State: 1, Data: strings.Repeat("x", 35)}},
	} {
		if e := heap.Restore(s, u); e != api.ErrArg {
			t.Fatal(u, e)
		}
	}
	if p := page(t, s, 2); p != (api.Page{Kind: api.PageHeap, Store: 1}) {
		t.Fatal(p)
	}
	c := api.Cell{State: api.Ghost, Data: strings.Repeat("x", 34)}
	if e := heap.Restore(s, api.Undo{Kind: api.UndoCell, Page: 2, Slot: 5, Before: c, Store: 99, Key: "plays no part"}); e != api.OK {
		t.Fatal(e)
	}
	if p := page(t, s, 2); p.Cells[5] != c {
		t.Fatal(p)
	}
	if e := heap.Restore(nil, api.Undo{Kind: api.UndoCell}); e != api.ErrArg {
		t.Fatal(e)
	}
}

func TestMapAndBack(t *testing.T) { // P15.2, P15.3
	seed := uint64(41)
	next := func(n int) int {
		seed = seed*6364136223846793005 + 1442695040888963407
		return int(seed>>33) % n
	}
	full := 0
	for round := range 200 {
		s := volume(t, 4+next(16))
		model := map[int]string{}
		var undos []api.Undo
		var old []map[int]string
		var keep []int
		for k := range 120 {
			id := 16 + next(60)
			val := strings.Repeat(string([]byte{byte(k)}), next(33))
			_, there := model[id]
			var u api.Undo
			e := api.OK
			copyOf := map[int]string{}
			for a, b := range model {
				copyOf[a] = b
			}
			switch next(5) {
			case 0, 1:
				id, u, e = heap.Insert(s, 1, val, keep)
				if e == api.ErrSpace {
					full++
					s = volume(t, 12)
					model, undos, old, keep = map[int]string{}, nil, nil, nil
					continue
				}
				if _, there := model[id]; there || e != api.OK || slices.Contains(keep, id) {
					t.Fatal(round, k, id, e)
				}
				model[id] = val
			case 2:
				u, e = heap.Update(s, 1, id, val)
				if (e == api.OK) != there || !there && e != api.ErrNone {
					t.Fatal(round, k, id, e)
				}
				if there {
					model[id] = val
				}
			case 3:
				u, e = heap.Delete(s, 1, id)
				if (e == api.OK) != there || !there && e != api.ErrNone {
					t.Fatal(round, k, id, e)
				}
				delete(model, id)
				if there && next(2) == 0 {
					keep = append(keep, id)
				}
			case 4:
				if len(undos) == 0 || next(4) > 0 {
					break
				}
				for n := next(len(undos)) + 1; n > 0; n-- {
					if e := heap.Restore(s, undos[len(undos)-1]); e != api.OK {
						t.Fatal(e)
					}
					model = old[len(old)-1]
					undos, old = undos[:len(undos)-1], old[:len(old)-1]
				}
				same(t, s, model)
				continue
			}
			if e == api.OK && u.Kind != 0 {
				undos, old = append(undos, u), append(old, copyOf)
			}
			same(t, s, model)
			v, e := heap.Read(s, 1, id)
			if want, ok := model[id]; v != want || (e == api.OK) != ok {
				t.Fatal(round, k, id, v, e)
			}
		}
	}
	if full == 0 {
		t.Fatal("no heap was ever full")
	}
}

func same(t *testing.T, s *stage.Stage, model map[int]string) {
	t.Helper()
	var want []api.Pair
	for id, val := range model {
		want = append(want, api.Pair{Id: id, Val: val})
	}
	sort.Slice(want, func(i, j int) bool { return want[i].Id < want[j].Id })
	list(t, s, want...)
}
