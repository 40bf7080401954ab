package tree_test

import (
	"math"
	"slices"
	"sort"
	"strings"
	"testing"

	"jetty/api"
	"jetty/audit"
	"jetty/node"
	"jetty/space"
	"jetty/stage"
	"jetty/tree"
)

// volume: a new one, store 1 an index.
func volume(t *testing.T, pages int) *stage.Stage {
	t.Helper()
	m, e := stage.Memory(pages)
	if e != api.OK {
		t.Fatal(e)
	}
	s := stage.New(m)
	if e := space.Format(s, pages); e != api.OK {
		t.Fatal(e)
	}
	if n, e := space.Make(s, api.Index); n != 1 || e != api.OK {
		t.Fatal(n, e)
	}
	return s
}

func put(t *testing.T, s *stage.Stage, key, val string, keep ...string) api.Undo {
	t.Helper()
	u, e := tree.Put(s, 1, key, val, keep)
	if e != api.OK {
		t.Fatal(key, e)
	}
	return u
}

func keyUndo(key string, before api.Cell) api.Undo {
	return api.Undo{Kind: api.UndoKey, Store: 1, Key: key, Before: before}
}

func leafCell(key, val string, state int) api.Cell {
	c, _ := node.Leaf(key, val, state)
	return c
}

func get(t *testing.T, s *stage.Stage, key, want string, err api.Errno) {
	t.Helper()
	if v, e := tree.Get(s, 1, key); v != want || e != err {
		t.Fatal(key, v, e)
	}
}

func seek(t *testing.T, s *stage.Stage, from, key, val string, state int) {
	t.Helper()
	k, v, st, e := tree.Seek(s, 1, from)
	if k != key || v != val || st != state || e != api.OK {
		t.Fatalf("Seek(%q): %q, %q, %d, %d", from, k, v, st, e)
	}
}

func TestExample(t *testing.T) { // P16.1, P16.2
	s := volume(t, 20)
	if u := put(t, s, "b", "1"); u != keyUndo("b", api.Cell{}) {
		t.Fatal(u)
	}
	put(t, s, "a", "2")
	if u, e := tree.Put(s, 1, "a", "3", nil); u != (api.Undo{}) || e != api.ErrThere {
		t.Fatal(u, e)
	}
	if l, e := tree.Range(s, 1, "", 9); e != api.OK || !slices.Equal(l, []api.Pair{{Key: "a", Val: "2"}, {Key: "b", Val: "1"}}) {
		t.Fatal(l, e)
	}
	u, e := tree.Cut(s, 1, "a")
	if e != api.OK || u != keyUndo("a", leafCell("a", "2", api.Live)) {
		t.Fatal(u, e)
	}
	get(t, s, "a", "", api.ErrNone)
	seek(t, s, "a", "a", "2", api.Ghost)
	seek(t, s, "", "a", "2", api.Ghost)
	if e := tree.Restore(s, u); e != api.OK {
		t.Fatal(e)
	}
	get(t, s, "a", "2", api.OK)
	u, e = tree.Set(s, 1, "b", "22")
	if e != api.OK || u != keyUndo("b", leafCell("b", "1", api.Live)) {
		t.Fatal(u, e)
	}
	get(t, s, "b", "22", api.OK)
	tree.Cut(s, 1, "b")
	if u := put(t, s, "b", "x"); u != keyUndo("b", leafCell("b", "22", api.Ghost)) {
		t.Fatal(u)
	}
	seek(t, s, "b", "b", "x", api.Live)
	seek(t, s, "aa", "b", "x", api.Live)
	seek(t, s, "c", "", "", api.Free)
	seek(t, s, strings.Repeat("b", 99), "", "", api.Free)
	seek(t, s, strings.Repeat("a", 99), "b", "x", api.Live)
	seek(t, s, "b\x00\x00\x00\x00\x00\x00\x00\x00\x00", "", "", api.Free)
}

func TestEdges(t *testing.T) { // P16.1
	s := volume(t, 20)
	seek(t, s, "", "", "", api.Free)
	if l, e := tree.Range(s, 1, "", 64); len(l) != 0 || e != api.OK {
		t.Fatal(l, e)
	}
	eight, nine := "12345678", "123456789"
	twenty, more := strings.Repeat("v", 20), strings.Repeat("v", 21)
	put(t, s, eight, twenty)
	put(t, s, "\x00", "")
	get(t, s, eight, twenty, api.OK)
	get(t, s, "\x00", "", api.OK)
	if _, e := tree.Set(s, 1, eight, ""); e != api.OK {
		t.Fatal(e)
	}
	if u, e := tree.Set(s, 1, eight, twenty); e != api.OK || u.Before != leafCell(eight, "", api.Live) {
		t.Fatal(e)
	}
	for _, store := range []int{1, 2, -1} { // an argument comes ahead of the store
		for _, key := range []string{"", nine, strings.Repeat("k", 300)} {
			for _, val := range []string{"", more} {
				if u, e := tree.Put(s, store, key, val, nil); u != (api.Undo{}) || e != api.ErrArg {
					t.Fatal(key, e)
				}
				if u, e := tree.Set(s, store, key, val); u != (api.Undo{}) || e != api.ErrArg {
					t.Fatal(key, e)
				}
			}
			if v, e := tree.Get(s, store, key); v != "" || e != api.ErrArg {
				t.Fatal(key, e)
			}
			if u, e := tree.Cut(s, store, key); u != (api.Undo{}) || e != api.ErrArg {
				t.Fatal(key, e)
			}
			if e := tree.Restore(s, api.Undo{Kind: api.UndoKey, Store: store, Key: key}); e != api.ErrArg {
				t.Fatal(key, e)
			}
		}
		if u, e := tree.Put(s, store, eight, more, nil); u != (api.Undo{}) || e != api.ErrLong {
			t.Fatal(e)
		}
		if u, e := tree.Set(s, store, "none", more); u != (api.Undo{}) || e != api.ErrLong {
			t.Fatal(e)
		}
		for _, most := range []int{math.MinInt, -1, 65, math.MaxInt} {
			if l, e := tree.Range(s, store, "", most); l != nil || e != api.ErrArg {
				t.Fatal(most, e)
			}
		}
		if l, e := tree.Range(s, store, nine, 5); l != nil || e != api.ErrArg {
			t.Fatal(e)
		}
	}
	if l, e := tree.Range(s, 1, eight, 0); len(l) != 0 || e != api.OK {
		t.Fatal(l, e)
	}
	if l, e := tree.Range(s, 1, eight, 1); len(l) != 1 || l[0] != (api.Pair{Key: eight, Val: twenty}) || e != api.OK {
		t.Fatal(l, e)
	}
	for _, key := range []string{"no", "1234567", "\x00\x00", "\xff"} {
		get(t, s, key, "", api.ErrNone)
		if u, e := tree.Set(s, 1, key, "v"); u != (api.Undo{}) || e != api.ErrNone {
			t.Fatal(key, e)
		}
		if u, e := tree.Cut(s, 1, key); u != (api.Undo{}) || e != api.ErrNone {
			t.Fatal(key, e)
		}
		if e := tree.Restore(s, keyUndo(key, api.Cell{})); e != api.ErrNone {
			t.Fatal(key, e)
		}
	}
	tree.Cut(s, 1, eight)
	if _, e := tree.Cut(s, 1, eight); e != api.ErrNone {
		t.Fatal("a ghost isn't live", e)
	}
	if _, e := tree.Set(s, 1, eight, "v"); e != api.ErrNone {
		t.Fatal("a ghost isn't live", e)
	}
}

func TestNoIndex(t *testing.T) { // P16.1
	s := volume(t, 20)
	put(t, s, "a", "1")
	space.Make(s, api.Heap)
	space.Make(s, api.Object)
	space.Make(s, api.Index)
	if _, e := tree.Put(s, 3, "a", "1", nil); e != api.OK {
		t.Fatal("an object store is an index here", e)
	}
	if _, e := tree.Put(s, 4, "a", "1", nil); e != api.OK {
		t.Fatal(e)
	}
	u, _ := tree.Cut(s, 4, "a")
	space.State(s, 4, api.Ghost)
	check := func(s *stage.Stage, store int, want api.Errno) {
		t.Helper()
		if k, v, st, e := tree.Seek(s, store, "a"); k != "" || v != "" || st != 0 || e != want {
			t.Fatal(store, e)
		}
		if v, e := tree.Get(s, store, "a"); v != "" || e != want {
			t.Fatal(store, e)
		}
		if l, e := tree.Range(s, store, "", 0); l != nil || e != want {
			t.Fatal(store, e)
		}
		if u, e := tree.Put(s, store, "b", "", nil); u != (api.Undo{}) || e != want {
			t.Fatal(store, e)
		}
		if u, e := tree.Set(s, store, "a", ""); u != (api.Undo{}) || e != want {
			t.Fatal(store, e)
		}
		if u, e := tree.Cut(s, store, "a"); u != (api.Undo{}) || e != want {
			t.Fatal(store, e)
		}
	}
	for _, store := range []int{math.MinInt, -1, 0, 2, 4, 5, 7, math.MaxInt} {
		check(s, store, api.ErrStore)
	}
	check(nil, 1, api.ErrArg)
	check(stage.New(nil), 1, api.ErrArg)
	for _, store := range []int{math.MinInt, -1, 0, 2, 5, 7} {
		if e := tree.Restore(s, api.Undo{Kind: api.UndoKey, Store: store, Key: "a"}); e != api.ErrStore {
			t.Fatal(store, e)
		}
	}
	if e := tree.Restore(s, u); e != api.OK { // a ghost of a store will do
		t.Fatal(e)
	}
	space.State(s, 4, api.Live)
	if v, e := tree.Get(s, 4, "a"); v != "1" || e != api.OK {
		t.Fatal(v, e)
	}
	for _, kind := range []int{math.MinInt, -1, api.UndoNone, api.UndoCell, api.UndoDir, 4} {
		if e := tree.Restore(s, api.Undo{Kind: kind, Store: 1, Key: "a"}); e != api.ErrArg {
			t.Fatal(kind, e)
		}
	}
	if e := tree.Restore(nil, keyUndo("a", api.Cell{})); e != api.ErrArg {
		t.Fatal(e)
	}
	get(t, s, "a", "1", api.OK)
}

func TestRestore(t *testing.T) { // P16.1: one that wasn't there is a ghost
	s := volume(t, 20)
	u := put(t, s, "k", "v")
	if e := tree.Restore(s, u); e != api.OK {
		t.Fatal(e)
	}
	get(t, s, "k", "", api.ErrNone)
	if k, _, st, e := tree.Seek(s, 1, "k"); k != "k" || st != api.Ghost || e != api.OK {
		t.Fatal(k, st, e)
	}
	if e := tree.Restore(s, keyUndo("k", leafCell("k", "w", api.Ghost))); e != api.OK {
		t.Fatal(e)
	}
	seek(t, s, "", "k", "w", api.Ghost)
	if e := tree.Restore(s, keyUndo("k", leafCell("k", "x", api.Live))); e != api.OK {
		t.Fatal(e)
	}
	get(t, s, "k", "x", api.OK)
}

// sound holds a tree against what an index is: order, levels, the leaves' chain.
func sound(t *testing.T, s *stage.Stage, store int) { // P16.3, too
	t.Helper()
	if e := audit.Check(s); e != api.OK {
		t.Fatal("audit", e)
	}
	_, root, _, e := space.Find(s, store)
	if e != api.OK {
		t.Fatal(e)
	}
	p, _ := s.Get(root)
	var leaves []int
	seen := map[int]bool{0: true, 1: true}
	var walk func(id, level int, low string, high *string)
	walk = func(id, level int, low string, high *string) {
		p, e := s.Get(id)
		if e != api.OK || seen[id] || node.Check(p) != api.OK || p.Level != level || p.Store != store {
			t.Fatal(id, e, p)
		}
		seen[id] = true
		n := node.Count(p)
		if level == 0 {
			leaves = append(leaves, id)
		}
		for i := range n {
			key, _, _ := node.Key(p.Cells[i])
			if i == 0 && level > 0 {
				key = low
			}
			if key < low || high != nil && key >= *high {
				t.Fatal(id, key, low, high)
			}
			if level == 0 {
				continue
			}
			end := high
			if i+1 < n {
				k, _, _ := node.Key(p.Cells[i+1])
				end = &k
			}
			walk(node.Child(p.Cells[i]), level-1, key, end)
		}
	}
	walk(root, p.Level, "", nil)
	for i, id := range append(leaves, 0)[1:] {
		if p, _ := s.Get(leaves[i]); p.Next != id {
			t.Fatal("the leaves' chain", leaves, leaves[i], p.Next)
		}
	}
	used, _, _ := space.Used(s)
	for _, id := range used {
		if p, _ := s.Get(id); p.Store == store && !seen[id] {
			t.Fatal(id, "belongs to the store, and isn't reached")
		}
	}
}

func same(t *testing.T, s *stage.Stage, store int, model map[string]string) {
	t.Helper()
	var want []api.Pair
	for k, v := range model {
		want = append(want, api.Pair{Key: k, Val: v})
	}
	sort.Slice(want, func(i, j int) bool { return want[i].Key < want[j].Key })
	var got []api.Pair
	from := ""
	for {
		l, e := tree.Range(s, store, from, 64)
		if e != api.OK {
			t.Fatal(e)
		}
		if len(got) > 0 && len(l) > 0 && l[0] == got[len(got)-1] {
			l = l[1:]
		}
		if len(l) == 0 {
			break
		}
		got = append(got, l...)
		from = l[len(l)-1].Key
	}
	if !slices.Equal(got, want) {
		t.Fatal(got, want)
	}
}

func keyNo(i int) string { return string([]byte{byte(i >> 8), byte(i)}) }

func TestManyKeys(t *testing.T) { // P16.1: rising, falling, mixed
	for way, step := range []int{1, 1999, 487} {
		s := volume(t, api.MaxPages)
		model := map[string]string{}
		for i := range 2000 {
			k := keyNo(i * step % 2000)
			if u := put(t, s, k, "v"+k); u != keyUndo(k, api.Cell{}) {
				t.Fatal(u)
			}
			model[k] = "v" + k
			if i%500 == 7 {
				sound(t, s, 1)
			}
		}
		sound(t, s, 1)
		same(t, s, 1, model)
		for i := range 2000 {
			get(t, s, keyNo(i), "v"+keyNo(i), api.OK)
			seek(t, s, keyNo(i)+"\x00", keyNo(i+1), "v"+keyNo(i+1), api.Live)
			if i == 1998 {
				break
			}
		}
		for _, most := range []int{0, 1, 63, 64} {
			l, e := tree.Range(s, 1, keyNo(700), most)
			if e != api.OK || len(l) != most {
				t.Fatal(way, most, len(l), e)
			}
			for i, p := range l {
				if p != (api.Pair{Key: keyNo(700 + i), Val: "v" + keyNo(700+i)}) {
					t.Fatal(i, p)
				}
			}
		}
	}
}

func TestNoRoom(t *testing.T) { // P16.1: ErrSpace only where fewer than ten pages are left
	for _, pages := range []int{4, 5, 12, 40, 200} {
		s := volume(t, pages)
		refused := 0
		for i := range 2000 {
			before := stage.New(s)
			u, e := tree.Put(before, 1, keyNo(i*7919%60000), strings.Repeat("v", 20), nil)
			if e == api.ErrSpace {
				used, n, _ := space.Used(s)
				if n-len(used) >= 10 || u != (api.Undo{}) {
					t.Fatal(pages, i, n-len(used))
				}
				refused++
				continue
			}
			if e != api.OK {
				t.Fatal(pages, i, e)
			}
			l, e := before.Images()
			if e != api.OK {
				t.Fatal(e)
			}
			for _, m := range l {
				s.Set(m.Id, m.Page)
			}
		}
		if refused == 0 {
			t.Fatal(pages)
		}
		sound(t, s, 1)
	}
}

func TestKeepAndGhosts(t *testing.T) { // P16.1: a ghost that every Put keeps is present
	s := volume(t, api.MaxPages)
	var keep []string
	for i := range 200 {
		put(t, s, keyNo(10*i), "v")
	}
	for i := range 200 {
		if u, e := tree.Cut(s, 1, keyNo(10*i)); e != api.OK || u.Before.State != api.Live {
			t.Fatal(e)
		}
		if i%3 == 0 {
			keep = append(keep, keyNo(10*i))
		}
	}
	old := slices.Clone(keep)
	for i := range 2000 {
		if i%10 != 0 {
			put(t, s, keyNo(i), "w", keep...)
		}
	}
	if !slices.Equal(keep, old) {
		t.Fatal("changed")
	}
	for _, k := range keep {
		seek(t, s, k, k, "v", api.Ghost)
		if e := tree.Restore(s, keyUndo(k, leafCell(k, "v", api.Live))); e != api.OK {
			t.Fatal(e)
		}
		get(t, s, k, "v", api.OK)
	}
	sound(t, s, 1)
}

func TestSamePagesSameGhosts(t *testing.T) { // P16.1: what goes hangs on pages, key and keep alone
	run := func() []api.Image {
		s := volume(t, 200)
		for i := range 400 {
			put(t, s, keyNo(i*37%1000), "v", keyNo(5), keyNo(6))
			if i%3 == 0 {
				tree.Cut(s, 1, keyNo(i*37%1000))
			}
		}
		l, _ := s.Images()
		return l
	}
	if !slices.Equal(run(), run()) {
		t.Fatal("two runs differ")
	}
}

func TestMapAndBack(t *testing.T) { // P16.1, P16.2
	seed := uint64(43)
	next := func(n int) int {
		seed = seed*6364136223846793005 + 1442695040888963407
		return int(seed>>33) % n
	}
	for round := range 60 {
		s := volume(t, 400)
		model := map[string]string{}
		var undos []api.Undo
		var old []map[string]string
		var keep []string
		wide := []int{8, 40, 400}[round%3]
		for k := range 400 {
			key, val := keyNo(next(wide)), strings.Repeat(string([]byte{byte(k)}), next(21))
			if next(9) == 0 {
				key += strings.Repeat("x", next(7))
			}
			_, there := model[key]
			present, was, state, e := tree.Seek(s, 1, key)
			if e != api.OK || there && (present != key || state != api.Live || was != model[key]) {
				t.Fatal(round, k, present, e)
			}
			before := api.Cell{}
			if present == key {
				before = leafCell(key, was, state)
			}
			snap := map[string]string{}
			for a, b := range model {
				snap[a] = b
			}
			var u api.Undo
			want := api.OK
			switch next(6) {
			case 0, 1, 2:
				u, e = tree.Put(s, 1, key, val, keep)
				if there {
					want = api.ErrThere
				} else {
					model[key] = val
				}
			case 3:
				u, e = tree.Set(s, 1, key, val)
				if there {
					model[key] = val
				} else {
					want = api.ErrNone
				}
			case 4:
				u, e = tree.Cut(s, 1, key)
				if !there {
					want = api.ErrNone
				}
				delete(model, key)
			case 5:
				if next(6) > 0 || len(undos) == 0 {
					continue
				}
				for n := next(len(undos)) + 1; n > 0; n-- {
					if e := tree.Restore(s, undos[len(undos)-1]); e != api.OK {
						t.Fatal(round, k, e)
					}
					model = old[len(old)-1]
					undos, old = undos[:len(undos)-1], old[:len(old)-1]
				}
				same(t, s, 1, model)
				continue
			}
			if e != want || e != api.OK && u != (api.Undo{}) || e == api.OK && u != keyUndo(key, before) {
				t.Fatal(round, k, key, u, e, want)
			}
			if e == api.OK {
				undos, old, keep = append(undos, u), append(old, snap), append(keep, key)
			}
			v, e := tree.Get(s, 1, key)
			if x, ok := model[key]; v != x || (e == api.OK) != ok || !ok && e != api.ErrNone {
				t.Fatal(round, k, key, v, e)
			}
			if next(30) == 0 { // what can't be taken back any more
				undos, old, keep = nil, nil, nil
			}
			if k%25 == 0 {
				same(t, s, 1, model)
				sound(t, s, 1)
			}
		}
		same(t, s, 1, model)
		sound(t, s, 1)
	}
}

// source: pages as a test likes them.
type source struct {
	pages map[int]api.Page
	bad   map[int]api.Errno
}

func (o source) Get(id int) (api.Page, api.Errno) { return o.pages[id], o.bad[id] }

func TestEveryStageEnds(t *testing.T) { // P16.1: on any stage calls end
	good := volume(t, 60)
	for i := range 100 {
		put(t, good, keyNo(i), "v")
	}
	seed := uint64(47)
	next := func(n int) int {
		seed = seed*6364136223846793005 + 1442695040888963407
		return int(seed>>33) % n
	}
	for range 3000 {
		o := source{map[int]api.Page{}, map[int]api.Errno{}}
		for id := range 60 {
			o.pages[id], _ = good.Get(id)
		}
		for range 1 + next(3) {
			id := next(40)
			p := o.pages[id]
			switch next(7) {
			case 0:
				p.Level = next(4)
			case 1:
				p.Next = next(60)
			case 2:
				p.Store = next(3)
			case 3:
				p = o.pages[next(40)]
			case 4:
				c, _ := node.Inner("", 1+next(40))
				p.Cells[0] = c
			case 5:
				p.Cells[next(6)] = api.Cell{State: next(4), Data: strings.Repeat("\x01", next(36))}
			case 6:
				o.bad[id] = api.ErrTorn
			}
			o.pages[id] = p
		}
		s := stage.New(o)
		key := keyNo(next(120))
		tree.Seek(s, 1, key)
		tree.Get(s, 1, key)
		tree.Range(s, 1, key, 64)
		tree.Put(s, 1, key+"x", "v", nil)
		tree.Set(s, 1, key, "w")
		tree.Cut(s, 1, key)
		tree.Restore(s, keyUndo(key, api.Cell{}))
	}
}
