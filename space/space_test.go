package space_test

import (
	"math"
	"slices"
	"strings"
	"testing"

	"jetty/api"
	"jetty/space"
	"jetty/stage"
)

// volume: a new one of so many pages.
func volume(t *testing.T, pages int) *stage.Stage {
	t.Helper()
	m, e := stage.Memory(pages)
	if e != api.OK {
		t.Fatal(e)
	}
	s := stage.New(m)
	if e := space.Format(s, pages); e != api.OK {
		t.Fatal(e)
	}
	return s
}

func used(t *testing.T, s *stage.Stage, pages int, want ...int) {
	t.Helper()
	l, n, e := space.Used(s)
	if !slices.Equal(l, want) || n != pages || e != api.OK {
		t.Fatal(l, n, e, "not", want)
	}
}

func find(t *testing.T, s *stage.Stage, store, kind, root, state int, want api.Errno) {
	t.Helper()
	k, r, st, e := space.Find(s, store)
	if k != kind || r != root || st != state || e != want {
		t.Fatal(store, k, r, st, e)
	}
}

func page(t *testing.T, s *stage.Stage, id int) api.Page {
	t.Helper()
	p, e := s.Get(id)
	if e != api.OK {
		t.Fatal(e)
	}
	return p
}

func TestExample(t *testing.T) { // P14.1
	s := volume(t, 8)
	used(t, s, 8, 0, 1)
	if n, e := space.Make(s, api.Index); n != 1 || e != api.OK {
		t.Fatal(n, e)
	}
	find(t, s, 1, api.Index, 2, api.Live, api.OK)
	if id, e := space.Take(s); id != 3 || e != api.OK {
		t.Fatal(id, e)
	}
	if e := space.Give(s, 3); e != api.OK {
		t.Fatal(e)
	}
	if id, e := space.Take(s); id != 3 || e != api.OK {
		t.Fatal(id, e)
	}
	if e := space.State(s, 1, api.Ghost); e != api.OK {
		t.Fatal(e)
	}
	find(t, s, 1, api.Index, 2, api.Ghost, api.OK)
	if e := space.Forget(s, 1); e != api.OK {
		t.Fatal(e)
	}
	used(t, s, 8, 0, 1, 3)
	find(t, s, 1, 0, 0, 0, api.ErrStore)
	if n, e := space.Make(s, 4); n != 0 || e != api.ErrArg {
		t.Fatal(n, e)
	}
}

func TestFormat(t *testing.T) { // P14.1
	for _, n := range []int{math.MinInt, -1, 0, 3, api.MaxPages + 1, math.MaxInt} {
		s := stage.New(nil)
		if e := space.Format(s, n); e != api.ErrArg {
			t.Fatal(n, e)
		}
		if _, e := s.Get(0); e != api.ErrArg {
			t.Fatal("a refusal has set a page")
		}
	}
	if e := space.Format(nil, 8); e != api.ErrArg {
		t.Fatal(e)
	}
	for _, n := range []int{4, 5, 272, 273, api.MaxPages} {
		s := volume(t, n)
		if p := page(t, s, space.Dir); p != (api.Page{Kind: api.PageDir}) {
			t.Fatal(p)
		}
		want := api.Page{Kind: api.PageMap, Next: n - 1}
		for i := range want.Cells {
			want.Cells[i] = api.Cell{State: api.Live, Data: strings.Repeat("\x00", 34)}
		}
		want.Cells[0].Data = "\x03" + strings.Repeat("\x00", 33)
		if p := page(t, s, space.Map); p != want {
			t.Fatal(p)
		}
		used(t, s, n, 0, 1)
	}
}

func TestTakeAll(t *testing.T) { // P14.1, P14.2
	s := volume(t, api.MaxPages)
	var all []int
	for id := 2; id < api.MaxPages; id++ {
		if got, e := space.Take(s); got != id || e != api.OK {
			t.Fatal(id, got, e)
		}
	}
	for id := range api.MaxPages {
		all = append(all, id)
	}
	used(t, s, api.MaxPages, all...)
	for range 2 {
		if id, e := space.Take(s); id != 0 || e != api.ErrSpace {
			t.Fatal(id, e)
		}
	}
	for _, id := range []int{1023, 2, 543, 544, 271, 272, 815, 816, 7, 8} {
		if e := space.Give(s, id); e != api.OK {
			t.Fatal(id, e)
		}
		if e := space.Give(s, id); e != api.ErrArg {
			t.Fatal(id, e)
		}
		p := page(t, s, space.Map)
		if p.Cells[id/272].Data[id%272/8]>>(id%8)&1 != 0 {
			t.Fatal(id, "its bit stands")
		}
	}
	for _, id := range []int{2, 7, 8, 271, 272, 543, 544, 815, 816, 1023} {
		if got, e := space.Take(s); got != id || e != api.OK {
			t.Fatal(id, got, e)
		}
	}
	small := volume(t, 4)
	space.Take(small)
	space.Take(small)
	if id, e := space.Take(small); id != 0 || e != api.ErrSpace {
		t.Fatal(id, e)
	}
	if n, e := space.Make(small, api.Heap); n != 0 || e != api.ErrSpace {
		t.Fatal(n, e)
	}
}

func TestGiveWrong(t *testing.T) { // P14.1
	s := volume(t, 8)
	space.Take(s)
	for _, id := range []int{math.MinInt, -1, 0, 1, 3, 7, 8, 9, 1024, 1632, math.MaxInt} {
		if e := space.Give(s, id); e != api.ErrArg {
			t.Fatal(id, e)
		}
	}
	used(t, s, 8, 0, 1, 2)
}

func TestTakeLeavesThePage(t *testing.T) { // P14.1: what stands in it stays
	s := volume(t, 8)
	x := api.Page{Kind: api.PageHeap, Level: 4, Store: 5, Next: 6}
	s.Set(2, x)
	if id, e := space.Take(s); id != 2 || e != api.OK || page(t, s, 2) != x {
		t.Fatal(id, e)
	}
}

func TestMake(t *testing.T) { // P14.1
	s := volume(t, 20)
	s.Set(2, api.Page{Kind: api.PageHeap, Level: 9, Store: 9, Next: 9, Cells: [6]api.Cell{{State: 1, Data: "x"}}})
	for i, kind := range []int{api.Heap, api.Index, api.Object, api.Heap, api.Index, api.Object} {
		if n, e := space.Make(s, kind); n != i+1 || e != api.OK {
			t.Fatal(n, e)
		}
		find(t, s, i+1, kind, i+2, api.Live, api.OK)
		want := api.Page{Kind: api.PageNode, Store: i + 1}
		if kind == api.Heap {
			want.Kind = api.PageHeap
		}
		if p := page(t, s, i+2); p != want {
			t.Fatal(p)
		}
		if c := page(t, s, 0).Cells[i]; c != (api.Cell{State: api.Live, Data: string([]byte{byte(kind), byte(i + 2), 0, 0, 0})}) {
			t.Fatal(c)
		}
	}
	if n, e := space.Make(s, api.Heap); n != 0 || e != api.ErrMany {
		t.Fatal(n, e)
	}
	for _, kind := range []int{math.MinInt, -1, 0, 4, 257, math.MaxInt} {
		if n, e := space.Make(s, kind); n != 0 || e != api.ErrArg {
			t.Fatal(n, e)
		}
	}
	used(t, s, 20, 0, 1, 2, 3, 4, 5, 6, 7)
	space.State(s, 4, api.Ghost)
	if n, e := space.Make(s, api.Heap); n != 0 || e != api.ErrMany {
		t.Fatal("a ghost isn't free", n, e)
	}
	if e := space.Forget(s, 4); e != api.OK {
		t.Fatal(e)
	}
	used(t, s, 20, 0, 1, 2, 3, 4, 6, 7)
	if n, e := space.Make(s, api.Object); n != 4 || e != api.OK {
		t.Fatal(n, e)
	}
	find(t, s, 4, api.Object, 5, api.Live, api.OK)
	big := volume(t, api.MaxPages)
	for range 598 {
		space.Take(big)
	}
	if n, e := space.Make(big, api.Heap); n != 1 || e != api.OK {
		t.Fatal(n, e)
	}
	find(t, big, 1, api.Heap, 600, api.Live, api.OK)
}

func TestFindAndState(t *testing.T) { // P14.1
	s := volume(t, 8)
	space.Make(s, api.Heap)
	for _, n := range []int{math.MinInt, -1, 0, 2, 6, 7, math.MaxInt} {
		find(t, s, n, 0, 0, 0, api.ErrStore)
		if e := space.State(s, n, api.Live); e != api.ErrArg {
			t.Fatal(n, e)
		}
		if e := space.Forget(s, n); e != api.ErrArg {
			t.Fatal(n, e)
		}
	}
	for _, state := range []int{math.MinInt, -1, api.Free, 3, math.MaxInt} {
		if e := space.State(s, 1, state); e != api.ErrArg {
			t.Fatal(state, e)
		}
	}
	find(t, s, 1, api.Heap, 2, api.Live, api.OK)
	for _, state := range []int{api.Ghost, api.Ghost, api.Live, api.Live} {
		if e := space.State(s, 1, state); e != api.OK {
			t.Fatal(e)
		}
		find(t, s, 1, api.Heap, 2, state, api.OK)
	}
	d := page(t, s, 0)
	for _, data := range []string{"", "\x01\x02\x00\x00", "\x01\x02\x00\x00\x00\x00"} {
		d.Cells[0].Data = data
		s.Set(0, d)
		find(t, s, 1, 0, 0, 0, api.ErrForm)
		if e := space.State(s, 1, api.Ghost); e != api.OK { // its cell has that State all the same
			t.Fatal(e)
		}
	}
	d.Cells[5] = api.Cell{State: api.Ghost, Data: "\xff\xff\xff\xff\xff"}
	s.Set(0, d)
	find(t, s, 6, 255, 1<<32-1, api.Ghost, api.OK)
	if e := space.Forget(s, 6); e != api.OK {
		t.Fatal(e)
	}
	find(t, s, 6, 0, 0, 0, api.ErrStore)
	if c := page(t, s, 0).Cells[5]; c != (api.Cell{}) {
		t.Fatal(c)
	}
}

func TestForget(t *testing.T) { // P14.1, P14.2
	s := volume(t, 30)
	space.Make(s, api.Heap)
	space.Make(s, api.Index)
	for i := range 12 {
		id, _ := space.Take(s)
		s.Set(id, api.Page{Kind: i % 5, Store: i % 4})
	}
	d := page(t, s, 0)
	d.Store = 1
	s.Set(0, d) // the directory is nobody's to give back
	m := page(t, s, 1)
	m.Store = 1
	s.Set(1, m)
	s.Set(20, api.Page{Store: 1}) // belongs to nobody
	if e := space.Forget(s, 1); e != api.OK {
		t.Fatal(e)
	}
	used(t, s, 30, 0, 1, 3, 4, 6, 7, 8, 10, 11, 12, 14, 15)
	find(t, s, 2, api.Index, 3, api.Live, api.OK)
	if e := space.Forget(s, 1); e != api.ErrArg {
		t.Fatal(e)
	}
	if page(t, s, 2).Store != 1 {
		t.Fatal("the page itself stays")
	}
}

// source: a shelf of which some pages can't be had.
type source struct {
	pages map[int]api.Page
	bad   map[int]api.Errno
}

func (o source) Get(id int) (api.Page, api.Errno) { return o.pages[id], o.bad[id] }

// calls: which errors all calls answer; beside an error there is nothing.
func calls(t *testing.T, s *stage.Stage) map[string]api.Errno {
	t.Helper()
	out := map[string]api.Errno{}
	note := func(name string, e api.Errno, rest ...int) {
		t.Helper()
		s.Drop()
		out[name] = e
		for _, n := range rest {
			if e != api.OK && n != 0 {
				t.Fatal(name, e, rest)
			}
		}
	}
	id, e := space.Take(s)
	note("take", e, id)
	note("give", space.Give(s, 5))
	used, n, e := space.Used(s)
	note("used", e, len(used), n)
	n, e = space.Make(s, api.Heap)
	note("make", e, n)
	n, e = space.Make(s, 4)
	note("make4", e, n)
	kind, root, state, e := space.Find(s, 9)
	note("find", e, kind, root, state)
	note("state", space.State(s, 9, 0))
	note("forget", space.Forget(s, 1))
	note("forget9", space.Forget(s, 9))
	return out
}

func TestNoVolume(t *testing.T) { // P14.1: errors, and which of them come first
	good := volume(t, 8)
	space.Make(good, api.Heap)
	dir, chart := page(t, good, 0), page(t, good, 1)
	full := dir
	for i := range full.Cells {
		full.Cells[i] = full.Cells[0]
	}
	short := chart
	short.Cells[5].Data = short.Cells[5].Data[1:]
	heap := api.Page{Kind: api.PageHeap}
	for _, x := range []struct {
		name string
		s    *stage.Stage
		want string // take give used make make4 find state forget forget9
	}{
		{"no source", stage.New(nil), "1 1 1 1 1 1 1 1 1"},
		{"nil", nil, "1 1 1 1 1 1 1 1 1"},
		{"all right", stage.New(source{map[int]api.Page{0: dir, 1: chart, 2: heap}, nil}), "0 1 0 0 1 190 1 0 1"},
		{"no directory", stage.New(source{map[int]api.Page{0: heap, 1: chart}, nil}), "0 1 0 40 1 40 40 40 40"},
		{"the directory is torn", stage.New(source{map[int]api.Page{0: dir, 1: chart}, map[int]api.Errno{0: api.ErrTorn}}), "0 1 0 30 1 30 30 30 30"},
		{"no map", stage.New(source{map[int]api.Page{0: dir, 1: heap}, nil}), "40 40 40 40 1 190 1 40 1"},
		{"a short map", stage.New(source{map[int]api.Page{0: dir, 1: short}, nil}), "40 40 40 40 1 190 1 40 1"},
		{"the map is torn", stage.New(source{map[int]api.Page{0: dir, 1: chart}, map[int]api.Errno{1: api.ErrTorn}}), "30 30 30 30 1 190 1 30 1"},
		{"neither", stage.New(source{nil, map[int]api.Errno{1: api.ErrTorn}}), "30 30 30 40 1 40 40 40 40"},
		{"full, and no map", stage.New(source{map[int]api.Page{0: full}, nil}), "40 40 40 192 1 190 1 40 1"},
		{"a store's page is torn", stage.New(source{map[int]api.Page{0: dir, 1: chart}, map[int]api.Errno{2: api.ErrTorn}}), "0 1 0 0 1 190 1 30 1"},
	} {
		got := calls(t, x.s)
		want := strings.Fields(x.want)
		for i, call := range strings.Fields("take give used make make4 find state forget forget9") {
			if got[call].Error() != "jetty: error "+want[i] {
				t.Fatal(x.name, call, got[call], want[i])
			}
		}
	}
}

func TestBehindTheLastPage(t *testing.T) { // P14.1: what the map says of pages that aren't plays no part
	m, _ := stage.Memory(40)
	s := stage.New(m)
	space.Format(s, 8)
	space.Make(s, api.Heap)
	p := page(t, s, 1)
	p.Cells[0].Data = "\x07\xff\xff" + p.Cells[0].Data[3:]
	s.Set(1, p)
	for id := 8; id < 24; id++ {
		s.Set(id, api.Page{Store: 1})
		if e := space.Give(s, id); e != api.ErrArg {
			t.Fatal(id, e)
		}
	}
	used(t, s, 8, 0, 1, 2)
	if e := space.Forget(s, 1); e != api.OK {
		t.Fatal(e)
	}
	p.Cells[0].Data = "\x03\xff\xff" + p.Cells[0].Data[3:]
	if q := page(t, s, 1); q != p {
		t.Fatal(q)
	}
	for id := 2; id < 8; id++ {
		if got, e := space.Take(s); got != id || e != api.OK {
			t.Fatal(id, got, e)
		}
	}
	if got, e := space.Take(s); got != 0 || e != api.ErrSpace {
		t.Fatal(got, e)
	}
}

func TestStoreWithoutBytes(t *testing.T) { // P14.1: no State but Live and Ghost, whatever the cell holds
	s := volume(t, 8)
	s.Set(0, api.Page{Kind: api.PageDir, Cells: [6]api.Cell{{State: api.Ghost}}})
	if e := space.State(s, 1, api.Free); e != api.ErrArg {
		t.Fatal(e)
	}
	if e := space.State(s, 1, api.Live); e != api.OK {
		t.Fatal(e)
	}
}

func TestMapThatGivesOutTheDirectory(t *testing.T) { // P14.1: the directory's page counts
	s := volume(t, 8)
	m := page(t, s, 1)
	m.Cells[0].Data = "\x02" + m.Cells[0].Data[1:] // page 0 belongs to nobody
	s.Set(1, m)
	if n, e := space.Make(s, api.Index); n != 1 || e != api.OK {
		t.Fatal(n, e)
	}
	if p := page(t, s, 0); p.Kind != api.PageDir || p.Cells[0] != (api.Cell{State: api.Live, Data: "\x02\x00\x00\x00\x00"}) {
		t.Fatal(p)
	}
	find(t, s, 1, api.Index, 0, api.Live, api.OK)
	m = page(t, s, 1)
	m.Cells[0].Data = "\x01" + m.Cells[0].Data[1:] // page 1 belongs to nobody
	s.Set(1, m)
	if n, e := space.Make(s, api.Index); n != 2 || e != api.OK {
		t.Fatal(n, e)
	}
	if p := page(t, s, 1); p != (api.Page{Kind: api.PageNode, Store: 2}) {
		t.Fatal(p)
	}
	if _, e := space.Take(s); e != api.ErrForm {
		t.Fatal(e)
	}
}

func TestEveryOrder(t *testing.T) { // P14.1, P14.2
	seed := uint64(37)
	next := func(n int) int {
		seed = seed*6364136223846793005 + 1442695040888963407
		return int(seed>>33) % n
	}
	for _, pages := range []int{4, 9, 40, 300} {
		s := volume(t, pages)
		owner := map[int]int{0: -1, 1: -1} // by page: its store, or a number below 0
		stores := map[int][3]int{}
		least := func() (int, bool) {
			for id := range pages {
				if _, ok := owner[id]; !ok {
					return id, true
				}
			}
			return 0, false
		}
		for k := range 3000 {
			id, free := least()
			switch next(6) {
			case 0, 1:
				got, e := space.Take(s)
				if !free {
					if got != 0 || e != api.ErrSpace {
						t.Fatal(k, got, e)
					}
					break
				}
				if got != id || e != api.OK {
					t.Fatal(k, got, id, e)
				}
				owner[id] = next(8)
				s.Set(id, api.Page{Store: owner[id]})
			case 2:
				x := next(pages+4) - 1
				_, ok := owner[x]
				ok = ok && x > 1
				if e := space.Give(s, x); (e == api.OK) != ok || !ok && e != api.ErrArg {
					t.Fatal(k, x, e)
				}
				if ok {
					delete(owner, x)
				}
			case 3:
				want, kind := 0, 1+next(3)
				for n := 6; n > 0; n-- {
					if _, ok := stores[n]; !ok {
						want = n
					}
				}
				n, e := space.Make(s, kind)
				if want == 0 && e != api.ErrMany || want > 0 && !free && e != api.ErrSpace || (want == 0 || !free) && n != 0 {
					t.Fatal(k, n, e)
				}
				if want > 0 && free {
					if n != want || e != api.OK {
						t.Fatal(k, n, want, e)
					}
					owner[id] = n
					stores[n] = [3]int{kind, id, api.Live}
				}
			case 4:
				n, state := next(8), next(4)
				x, ok := stores[n]
				ok = ok && (state == 1 || state == 2)
				if e := space.State(s, n, state); (e == api.OK) != ok || !ok && e != api.ErrArg {
					t.Fatal(k, n, e)
				}
				if ok {
					stores[n] = [3]int{x[0], x[1], state}
				}
			case 5:
				n := next(8)
				_, ok := stores[n]
				if e := space.Forget(s, n); (e == api.OK) != ok || !ok && e != api.ErrArg {
					t.Fatal(k, n, e)
				}
				for id, of := range owner {
					if ok && of == n {
						delete(owner, id)
					}
				}
				delete(stores, n)
			}
			var want []int
			for id := range pages {
				if _, ok := owner[id]; ok {
					want = append(want, id)
				}
			}
			used(t, s, pages, want...)
			for n := range 8 {
				if x, ok := stores[n]; ok {
					find(t, s, n, x[0], x[1], x[2], api.OK)
				} else {
					find(t, s, n, 0, 0, 0, api.ErrStore)
				}
			}
		}
	}
}
