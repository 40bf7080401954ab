package audit_test

import (
	"slices"
	"strings"
	"testing"

	"jetty/api"
	"jetty/audit"
	"jetty/heap"
	"jetty/lob"
	"jetty/node"
	"jetty/space"
	"jetty/stage"
	"jetty/tree"
)

// shelf: blank pages in memory, formatted.
func volume(t *testing.T, pages int) *stage.Stage {
	t.Helper()
	m, e := stage.Memory(pages)
	if e != api.OK {
		t.Fatal(e)
	}
	s := stage.New(m)
	if e := space.Format(s, pages); e != api.OK {
		t.Fatal(e)
	}
	return s
}

func check(t *testing.T, name string, s *stage.Stage, want api.Errno) {
	t.Helper()
	if e := audit.Check(s); e != want {
		t.Fatal(name, e)
	}
}

func keyNo(i int) string { return string([]byte{byte('a' + i/26), byte('a' + i%26)}) }

// sound: a volume with a heap (pages 2 and more), an index of three levels, and objects.
func sound(t *testing.T) *stage.Stage {
	t.Helper()
	s := volume(t, 80)
	for kind := api.Heap; kind <= api.Object; kind++ {
		if n, e := space.Make(s, kind); n != kind || e != api.OK {
			t.Fatal(n, e)
		}
	}
	for range 20 {
		if _, _, e := heap.Insert(s, 1, strings.Repeat("r", 32), nil); e != api.OK {
			t.Fatal(e)
		}
	}
	for i := range 60 {
		if _, e := tree.Put(s, 2, keyNo(i), "v", nil); e != api.OK {
			t.Fatal(e)
		}
	}
	l, e := lob.New(s, 3, 5)
	if e != api.OK {
		t.Fatal(e)
	}
	for _, x := range l {
		tree.Put(s, 3, x.Key, x.Val, nil)
	}
	check(t, "sound", s, api.OK)
	return s
}

func page(t *testing.T, s *stage.Stage, id int) api.Page {
	t.Helper()
	p, e := s.Get(id)
	if e != api.OK {
		t.Fatal(id, e)
	}
	return p
}

// with: a stage over another one, with a page that is otherwise.
func with(t *testing.T, s *stage.Stage, id int, f func(p *api.Page)) *stage.Stage {
	t.Helper()
	p := page(t, s, id)
	f(&p)
	x := stage.New(s)
	if e := x.Set(id, p); e != api.OK {
		t.Fatal(id, e)
	}
	return x
}

func TestNewVolume(t *testing.T) { // P22.1, P22.2
	for _, n := range []int{4, 80, api.MaxPages} {
		check(t, "new", volume(t, n), api.OK)
	}
	s := volume(t, 80)
	for kind := api.Heap; kind <= api.Object; kind++ {
		space.Make(s, kind)
		check(t, "empty stores", s, api.OK)
	}
	for store := 1; store <= 3; store++ {
		space.State(s, store, api.Ghost)
		check(t, "a ghost", s, api.OK)
		space.Forget(s, store)
		check(t, "forgotten", s, api.OK)
	}
}

// source: pages, of which some can't be had.
type source struct {
	s   *stage.Stage
	bad map[int]api.Errno
}

func (o source) Get(id int) (api.Page, api.Errno) {
	if e := o.bad[id]; e != api.OK {
		return api.Page{}, e
	}
	return o.s.Get(id)
}

func TestErrorsOfTheStage(t *testing.T) { // P22.1
	check(t, "nil", nil, api.ErrArg)
	check(t, "no source", stage.New(nil), api.ErrArg)
	m, _ := stage.Memory(10)
	check(t, "blank pages", stage.New(m), api.ErrForm)
	s := sound(t)
	used, _, _ := space.Used(s)
	for _, id := range used {
		for _, e := range []api.Errno{api.ErrTorn, api.ErrDown, api.ErrForm, api.ErrArg} {
			check(t, "a page that can't be had", stage.New(source{s, map[int]api.Errno{id: e}}), e)
		}
	}
	check(t, "a page of nobody's", stage.New(source{s, map[int]api.Errno{79: api.ErrTorn}}), api.OK)
}

// nodes: the pages of the index by their level.
func nodes(t *testing.T, s *stage.Stage) [][]int {
	t.Helper()
	_, root, _, _ := space.Find(s, 2)
	l := [][]int{{root}}
	for page(t, s, l[0][0]).Level > 0 {
		var below []int
		for _, id := range l[0] {
			p := page(t, s, id)
			for i := range node.Count(p) {
				below = append(below, node.Child(p.Cells[i]))
			}
		}
		l = append([][]int{below}, l...)
	}
	return l
}

func keyOf(p api.Page, i int) string {
	key, _, _ := node.Key(p.Cells[i])
	return key
}

// otherKey: the cell with another key.
func otherKey(c api.Cell, key string) api.Cell {
	_, rest, _ := node.Key(c)
	return api.Cell{State: c.State, Data: string([]byte{byte(len(key))}) + key + rest}
}

func TestDirectoryAndMap(t *testing.T) { // P22.1
	s := sound(t)
	for _, c := range []struct {
		name string
		id   int
		f    func(*api.Page)
		want api.Errno
	}{
		{"no directory", 0, func(p *api.Page) { p.Kind = api.PageHeap }, api.ErrForm},
		{"no map", 1, func(p *api.Page) { p.Kind = api.PageDir }, api.ErrForm},
		{"a short map", 1, func(p *api.Page) { p.Cells[5].Data = "" }, api.ErrForm},
		{"a short cell", 0, func(p *api.Page) { p.Cells[1].Data = p.Cells[1].Data[:4] }, api.ErrForm},
		{"a long cell", 0, func(p *api.Page) { p.Cells[2].Data += "\x00" }, api.ErrForm},
		{"a ghost without bytes", 0, func(p *api.Page) { p.Cells[5] = api.Cell{State: api.Ghost} }, api.ErrForm},
		{"a store whose page is another's", 0, func(p *api.Page) { p.Cells[4] = p.Cells[1] }, api.ErrForm},
		{"a root that is the directory", 0, func(p *api.Page) { p.Cells[4] = api.Cell{State: api.Live, Data: "\x01\x00\x00\x00\x00"} }, api.ErrForm},
		{"a root that is the map", 0, func(p *api.Page) { p.Cells[4] = api.Cell{State: api.Live, Data: "\x02\x01\x00\x00\x00"} }, api.ErrForm},
		{"a root that isn't", 0, func(p *api.Page) { p.Cells[4] = api.Cell{State: api.Live, Data: "\x02\xff\xff\x00\x00"} }, api.ErrArg},
		{"a store less", 0, func(p *api.Page) { p.Cells[1] = api.Cell{} }, api.ErrForm},
		{"a heap for a tree", 0, func(p *api.Page) { p.Cells[1].Data = "\x01" + p.Cells[1].Data[1:] }, api.ErrForm},
		{"a tree for a heap", 0, func(p *api.Page) { p.Cells[0].Data = "\x02" + p.Cells[0].Data[1:] }, api.ErrForm},
		{"a tree of another kind", 0, func(p *api.Page) { p.Cells[1].Data = "\x09" + p.Cells[1].Data[1:] }, api.OK},
		{"all are ghosts", 0, func(p *api.Page) { p.Cells[0].State, p.Cells[1].State, p.Cells[2].State = 2, 2, 2 }, api.OK},
		{"the map with another end", 1, func(p *api.Page) { p.Next = 70 }, api.OK},
		{"the map with too few pages", 1, func(p *api.Page) { p.Next = 8 }, api.ErrForm},
		{"a page of nobody's is somebody's", 1, func(p *api.Page) { p.Cells[0].Data = p.Cells[0].Data[:9] + "\x80" + p.Cells[0].Data[10:] }, api.ErrForm},
		{"a page of somebody's is nobody's", 1, func(p *api.Page) { p.Cells[0].Data = "\xf7" + p.Cells[0].Data[1:] }, api.ErrForm},
		{"the directory is nobody's", 1, func(p *api.Page) { p.Cells[0].Data = "\xfe" + p.Cells[0].Data[1:] }, api.ErrForm},
		{"the map is nobody's", 1, func(p *api.Page) { p.Cells[0].Data = "\xfd" + p.Cells[0].Data[1:] }, api.ErrForm},
	} {
		check(t, c.name, with(t, s, c.id, c.f), c.want)
	}
	x := stage.New(s)
	id, _ := space.Take(x)
	check(t, "a page that was taken, and nobody reaches", x, api.ErrForm)
	space.Give(x, id)
	check(t, "and given back", x, api.OK)
	space.Give(x, 3)
	check(t, "a page that is reached and given back", x, api.ErrForm)
	x = with(t, s, 1, func(p *api.Page) { p.Cells[0].Data = "\xf7" + p.Cells[0].Data[1:9] + "\x80" + p.Cells[0].Data[10:] })
	check(t, "as many pages, but others", x, api.ErrForm)
}

func TestHeapFaults(t *testing.T) { // P22.1
	s := sound(t)
	_, root, _, _ := space.Find(s, 1)
	second := page(t, s, root).Next
	for _, id := range []int{root, second} {
		for _, c := range []struct {
			name string
			f    func(*api.Page)
			want api.Errno
		}{
			{"another kind", func(p *api.Page) { p.Kind = api.PageNode }, api.ErrForm},
			{"another store", func(p *api.Page) { p.Store = 2 }, api.ErrForm},
			{"another level", func(p *api.Page) { p.Level = 7 }, api.OK},
			{"a record of 32 bytes", func(p *api.Page) { p.Cells[1] = api.Cell{State: api.Ghost, Data: strings.Repeat("x", 32)} }, api.OK},
			{"a record of 33 bytes", func(p *api.Page) { p.Cells[1] = api.Cell{State: api.Live, Data: strings.Repeat("x", 33)} }, api.ErrForm},
			{"a ghost of 33 bytes", func(p *api.Page) { p.Cells[5] = api.Cell{State: api.Ghost, Data: strings.Repeat("x", 33)} }, api.ErrForm},
			{"a cell less", func(p *api.Page) { p.Cells[0] = api.Cell{} }, api.OK},
			{"a circle", func(p *api.Page) { p.Next = root }, api.ErrForm},
			{"a circle of one", func(p *api.Page) { p.Next = id }, api.ErrForm},
			{"the chain ends too early", func(p *api.Page) { p.Next = 0 }, api.ErrForm},
			{"on to the map", func(p *api.Page) { p.Next = 1 }, api.ErrForm},
			{"on to a tree", func(p *api.Page) { p.Next = 3 }, api.ErrForm},
			{"on to nothing", func(p *api.Page) { p.Next = 1000 }, api.ErrArg},
		} {
			check(t, c.name, with(t, s, id, c.f), c.want)
		}
	}
}

func TestNodeFaults(t *testing.T) { // P22.1
	s := sound(t)
	l := nodes(t, s)
	if len(l) < 3 {
		t.Fatal("three levels", l)
	}
	leaves, mid, root := l[0], l[1], l[2][0]
	set := func(name string, id int, f func(p *api.Page), want api.Errno) {
		t.Helper()
		check(t, name, with(t, s, id, f), want)
	}
	for _, ids := range l {
		for i, id := range ids {
			set("another kind", id, func(p *api.Page) { p.Kind = api.PageHeap }, api.ErrForm)
			set("another store", id, func(p *api.Page) { p.Store = 1 }, api.ErrForm)
			set("another level", id, func(p *api.Page) { p.Level++ }, api.ErrForm)
			set("a gap", id, func(p *api.Page) { p.Cells[0] = api.Cell{} }, api.ErrForm)
			set("no key", id, func(p *api.Page) { p.Cells[1].Data = "\x09" }, api.ErrForm)
			if i > 0 {
				set("the next one's keys", ids[i-1], func(p *api.Page) { p.Cells = page(t, s, id).Cells }, api.ErrForm)
			}
		}
	}
	for i, id := range leaves {
		n := node.Count(page(t, s, id))
		least := keyOf(page(t, s, id), 0)
		if i > 0 {
			set("a key below its parent's cell's", id, func(p *api.Page) { p.Cells[0] = otherKey(p.Cells[0], keyOf(page(t, s, leaves[i-1]), 0)) }, api.ErrForm)
			set("a leaf without the key of its cell", id, func(p *api.Page) { *p, _ = node.Take(*p, 0) }, api.OK)
			set("the chain ends too early", leaves[i-1], func(p *api.Page) { p.Next = 0 }, api.ErrForm)
		}
		if i+1 < len(leaves) {
			next := keyOf(page(t, s, leaves[i+1]), 0)
			set("the key of the next leaf", id, func(p *api.Page) { p.Cells[n-1] = otherKey(p.Cells[n-1], next) }, api.ErrForm)
			set("just below the next leaf", id, func(p *api.Page) { p.Cells[n-1] = otherKey(p.Cells[n-1], next[:1]+string([]byte{next[1] - 1})) }, api.OK)
		} else {
			set("behind the last leaf there is one", id, func(p *api.Page) { p.Next = leaves[0] }, api.ErrForm)
			set("the greatest key", id, func(p *api.Page) { p.Cells[n-1] = otherKey(p.Cells[n-1], "\xff\xff\xff\xff\xff\xff\xff\xff") }, api.OK)
		}
		if i+2 < len(leaves) {
			set("a leaf is left out of the chain", id, func(p *api.Page) { p.Next = leaves[i+2] }, api.ErrForm)
		}
		set("a ghost", id, func(p *api.Page) { p.Cells[0].State = api.Ghost }, api.OK)
		set("no cells", id, func(p *api.Page) { p.Cells = [6]api.Cell{} }, api.OK)
		set("a value that is too long", id, func(p *api.Page) { p.Cells[0].Data = "\x01" + least[:1] + strings.Repeat("v", 21) }, api.ErrForm)
	}
	for i, id := range mid {
		p := page(t, s, id)
		n := node.Count(p)
		set("a child twice", id, func(p *api.Page) { p.Cells[1] = otherKey(p.Cells[0], keyOf(*p, 1)) }, api.ErrForm)
		set("a child that is the root", id, func(p *api.Page) { p.Cells[1], _ = node.Inner(keyOf(*p, 1), root) }, api.ErrForm)
		set("a child that is the map", id, func(p *api.Page) { p.Cells[1], _ = node.Inner(keyOf(*p, 1), space.Map) }, api.ErrForm)
		set("a child of a heap", id, func(p *api.Page) { p.Cells[1], _ = node.Inner(keyOf(*p, 1), 2) }, api.ErrForm)
		set("a child that isn't", id, func(p *api.Page) { p.Cells[1], _ = node.Inner(keyOf(*p, 1), 1000) }, api.ErrArg)
		set("a child less", id, func(p *api.Page) { *p, _ = node.Take(*p, n-1) }, api.ErrForm)
		set("a key that parts otherwise", id, func(p *api.Page) { p.Cells[1] = otherKey(p.Cells[1], keyOf(*p, 1)+"\x00") }, api.ErrForm)
		if i > 0 {
			low := keyOf(page(t, s, root), i)
			set("a cell's key below where its parent's begins", id, func(p *api.Page) { p.Cells[1] = otherKey(p.Cells[1], "\x00") }, api.ErrForm)
			set("a cell's key where its parent's begins", id, func(p *api.Page) { p.Cells[1] = otherKey(p.Cells[1], low) }, api.ErrForm) // its first leaf has keys
		}
		if i+1 < len(mid) {
			high := keyOf(page(t, s, root), i+1)
			set("a cell's key where its parent's ends", id, func(p *api.Page) { p.Cells[n-1] = otherKey(p.Cells[n-1], high) }, api.ErrForm)
		}
	}
	set("levels that don't come down", root, func(p *api.Page) { p.Level = 200 }, api.ErrForm)
}

// grow makes a tree by hand: pages 2 (root) and on, as they are given.
func grow(t *testing.T, pages ...api.Page) *stage.Stage {
	t.Helper()
	s := volume(t, 40)
	space.Make(s, api.Index)
	for i, p := range pages {
		if i > 0 {
			space.Take(s)
		}
		p.Kind, p.Store = api.PageNode, 1
		if e := s.Set(2+i, p); e != api.OK {
			t.Fatal(e)
		}
	}
	return s
}

func inner(level int, cells ...any) api.Page {
	p := api.Page{Level: level}
	for i := 0; i < len(cells); i += 2 {
		p.Cells[i/2], _ = node.Inner(cells[i].(string), cells[i+1].(int))
	}
	return p
}

func leafOf(next int, keys ...string) api.Page {
	p := api.Page{Next: next}
	for i, k := range keys {
		p.Cells[i], _ = node.Leaf(k, "v", api.Live)
	}
	return p
}

func TestEmptySpans(t *testing.T) { // P22.1: where no key can be
	for _, c := range []struct {
		name string
		s    *stage.Stage
		want api.Errno
	}{
		{"two levels", grow(t, inner(1, "", 3, "m", 4), leafOf(4, "a"), leafOf(0, "m", "z")), api.OK},
		{"one child", grow(t, inner(1, "", 3), leafOf(0, "a")), api.OK},
		{"an empty root leaf", grow(t, leafOf(0)), api.OK},
		{"a root leaf with a next one", grow(t, leafOf(2)), api.ErrForm},
		{"leaves out of order", grow(t, inner(1, "", 4, "m", 3), leafOf(4, "m"), leafOf(3, "a")), api.ErrForm},
		{"leaves in another order of pages", grow(t, inner(1, "", 4, "m", 3), leafOf(0, "m"), leafOf(3, "a")), api.OK},
		{"three levels", grow(t, inner(2, "", 3, "m", 4), inner(1, "", 5), inner(1, "", 6, "p", 7), leafOf(6, "a"), leafOf(7, "n"), leafOf(0, "p")), api.OK},
		{"a key below the inner cell's", grow(t, inner(2, "", 3, "m", 4), inner(1, "", 5), inner(1, "", 6, "p", 7), leafOf(6, "a"), leafOf(7, "l"), leafOf(0, "p")), api.ErrForm},
		{"a span without keys, a leaf without keys", grow(t, inner(2, "", 3, "m", 4), inner(1, "", 5), inner(1, "", 6, "m", 7), leafOf(6, "a"), leafOf(7), leafOf(0, "p")), api.OK},
		{"a span without keys, a leaf with one", grow(t, inner(2, "", 3, "m", 4), inner(1, "", 5), inner(1, "", 6, "m", 7), leafOf(6, "a"), leafOf(7, "m"), leafOf(0, "p")), api.ErrForm},
		{"a span without keys, an inner node", grow(t, inner(3, "", 3, "m", 4), inner(2, "", 5), inner(2, "", 6, "m", 7), inner(1, "", 8), inner(1, "", 9), inner(1, "", 10), leafOf(9, "a"), leafOf(10), leafOf(0, "p")), api.ErrForm},
		{"an inner cell behind its parent's end", grow(t, inner(2, "", 3, "m", 4), inner(1, "", 5, "m", 7), inner(1, "", 6), leafOf(7, "a"), leafOf(0), leafOf(6)), api.ErrForm},
		{"an inner cell below its parent's beginning", grow(t, inner(2, "", 3, "m", 4), inner(1, "", 5), inner(1, "", 6, "c", 7), leafOf(6), leafOf(7), leafOf(0)), api.ErrForm},
		{"a level left out", grow(t, inner(2, "", 3), leafOf(0, "a")), api.ErrForm},
	} {
		check(t, c.name, c.s, c.want)
	}
}

func TestSoundVolumes(t *testing.T) { // P22.2, P16.3, P7
	seed := uint64(71)
	next := func(n int) int {
		seed = seed*6364136223846793005 + 1442695040888963407
		return int(seed>>33) % n
	}
	for round := range 30 {
		s := volume(t, []int{40, 200, 1024}[round%3])
		var undos []api.Undo
		var keep []string
		for k := range 400 {
			store := 1 + next(6)
			x := stage.New(s)
			key, val := keyNo(next(600))+strings.Repeat("k", next(3)), strings.Repeat("v", next(21))
			var u api.Undo
			e := api.OK
			switch next(9) {
			case 0:
				_, e = space.Make(x, 2+next(2))
			case 1:
				if next(12) == 0 {
					e = space.State(x, store, 1+next(2))
				}
			case 2:
				if next(30) == 0 {
					e = space.Forget(x, store)
					undos = slices.DeleteFunc(undos, func(u api.Undo) bool { return u.Store == store })
				}
			case 3:
				if n := len(undos); n > 0 && next(3) == 0 {
					e = tree.Restore(x, undos[n-1])
					undos = undos[:n-1]
				}
			case 4:
				u, e = tree.Cut(x, store, key)
			case 5:
				u, e = tree.Set(x, store, key, val)
			default:
				u, e = tree.Put(x, store, key, val, keep)
			}
			if e != api.OK { // what it has set is dropped
				continue
			}
			l, e := x.Images()
			if e != api.OK {
				t.Fatal(e)
			}
			for _, m := range l {
				s.Set(m.Id, m.Page)
			}
			if u.Kind != 0 {
				undos, keep = append(undos, u), append(keep, u.Key)
			}
			if e := audit.Check(s); e != api.OK {
				t.Fatal(round, k, e)
			}
		}
		for store := 1; store <= 6; store++ {
			if _, _, state, e := space.Find(s, store); e == api.OK && state == api.Ghost {
				space.Forget(s, store)
			}
		}
		check(t, "forgotten", s, api.OK)
		used, _, _ := space.Used(s)
		for _, id := range used {
			if id < 2 {
				continue
			}
			if _, _, state, e := space.Find(s, page(t, s, id).Store); e != api.OK || state != api.Live {
				t.Fatal(id, "is no live store's", e)
			}
		}
	}
}
