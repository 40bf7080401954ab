package base_test

import (
	"slices"
	"sort"
	"strings"
	"testing"

	"jetty/api"
	"jetty/base"
	"jetty/disk"
)

// An edit is what an operation does to a store of maps.
type edit struct {
	store int
	kind  int // not 0: the store is made; below 0: it is gone
	item  string
	val   string
	cut   bool
}

// maps: stores by their numbers; items are keys, or base.Item of a number.
type maps map[int]*one

type one struct {
	kind  int
	items map[string]string
}

func (m maps) with(edits []edit) maps {
	out := maps{}
	for n, s := range m {
		c := &one{s.kind, map[string]string{}}
		for k, v := range s.items {
			c.items[k] = v
		}
		out[n] = c
	}
	for _, e := range edits {
		switch {
		case e.kind > 0:
			out[e.store] = &one{e.kind, map[string]string{}}
		case e.kind < 0:
			delete(out, e.store)
		case e.cut:
			delete(out[e.store].items, e.item)
		default:
			out[e.store].items[e.item] = e.val
		}
	}
	return out
}

func numberOf(item string) int {
	return int(item[0]) | int(item[1])<<8 | int(item[2])<<16 | int(item[3])<<24
}

func (s *one) pairs() []api.Pair {
	var l []api.Pair
	for k, v := range s.items {
		if s.kind == api.Index {
			l = append(l, api.Pair{Key: k, Val: v})
		} else {
			l = append(l, api.Pair{Id: numberOf(k), Val: v})
		}
	}
	sort.Slice(l, func(i, j int) bool { return l[i].Key < l[j].Key || l[i].Key == l[j].Key && l[i].Id < l[j].Id })
	return l
}

func (m maps) shelves() []api.Shelf {
	var l []api.Shelf
	for n := 1; n <= api.MaxStores; n++ {
		if s := m[n]; s != nil {
			l = append(l, api.Shelf{Store: n, Kind: s.kind, Pairs: s.pairs()})
		}
	}
	return l
}

// A world is a volume and what it should hold.
type world struct {
	t     *testing.T
	next  func(int) int
	d     *disk.Disk
	b     *base.Base
	firm  maps
	lives [4]*life
	maybe []edit           // of a commit that was under way
	of    map[api.Name]int // whose a record is
	full  int              // operations refused for want of room
	done  int              // operations that were not
	down  bool             // the device has given out
}

// A life is a transaction: its edits, and its savepoints.
type life struct {
	x     int
	edits []edit
	saves [][2]int // the number, how many edits
}

func random(seed uint64) func(int) int {
	return func(n int) int {
		seed = seed*6364136223846793005 + 1442695040888963407
		return int(seed>>33) % n
	}
}

// now: what the volume holds with what lives.
func (w *world) now() maps {
	m := w.firm
	for _, l := range w.lives {
		if l != nil {
			m = m.with(l.edits)
		}
	}
	return m
}

func (w *world) alone(i int) bool {
	for k, l := range w.lives {
		if k != i && l != nil {
			return false
		}
	}
	return true
}

// item: one of those that are this slot's alone.
func (w *world) item(i int, store, kind int, m maps) string {
	switch kind {
	case api.Heap:
		var mine []string
		for k := range m[store].items {
			if w.of[api.Name{Store: store, Item: k}] == i {
				mine = append(mine, k)
			}
		}
		if len(mine) == 0 || w.next(10) == 0 {
			return base.Item(9999) // no record at all
		}
		sort.Strings(mine)
		return mine[w.next(len(mine))]
	case api.Index:
		return string([]byte{byte('a' + w.next(12)), byte(i)}) + strings.Repeat("k", w.next(3))
	}
	return base.Item(i + 4*w.next(3))
}

// op: some operation of a slot, what it should answer, and what it should do. (Of an Insert the id is open.)
func (w *world) op(i int) (api.Op, api.Answer, []edit) {
	m := w.now()
	store := 1 + w.next(6)
	val := strings.Repeat(string([]byte{byte(w.next(256))}), w.next(21))
	s := m[store]
	if s == nil {
		if w.alone(i) && w.next(2) == 0 {
			return w.makeStore(m)
		}
		return api.Op{Kind: api.OpInsert, Store: store, Val: val}, err(api.ErrStore), nil
	}
	if w.alone(i) && w.next(40) == 0 {
		return api.Op{Kind: api.OpDrop, Store: store}, api.Answer{}, []edit{{store: store, kind: -1}}
	}
	item := w.item(i, store, s.kind, m)
	old, there := s.items[item]
	e := edit{store: store, item: item, val: val}
	switch s.kind {
	case api.Heap:
		return w.heapOp(e, s, old, there)
	case api.Index:
		return w.indexOp(e, s, old, there)
	}
	return w.objectOp(e, old, there)
}

func (w *world) makeStore(m maps) (api.Op, api.Answer, []edit) {
	kind := 1 + w.next(3)
	for n := 1; n <= 6; n++ {
		if m[n] == nil {
			return newStore(kind), api.Answer{Num: n}, []edit{{store: n, kind: kind}}
		}
	}
	return newStore(kind), err(api.ErrMany), nil
}

// unless: an answer and edits where something is there, else an error.
func unless(there bool, op api.Op, e edit) (api.Op, api.Answer, []edit) {
	if !there {
		return op, err(api.ErrNone), nil
	}
	return op, api.Answer{}, []edit{e}
}

func (w *world) heapOp(e edit, s *one, old string, there bool) (api.Op, api.Answer, []edit) {
	op := api.Op{Store: e.store, Num: numberOf(e.item), Val: e.val}
	switch w.next(8) {
	case 0:
		op.Kind = api.OpRead
		if !there {
			return op, err(api.ErrNone), nil
		}
		return op, api.Answer{Val: old}, nil
	case 1, 2:
		op.Kind = api.OpUpdate
		return unless(there, op, e)
	case 3:
		op.Kind, e.cut = api.OpDelete, true
		return unless(there, op, e)
	case 4:
		op.Kind = api.OpList
		return op, api.Answer{Pairs: s.pairs()}, nil
	}
	op.Kind = api.OpInsert
	return op, api.Answer{}, []edit{e}
}

func (w *world) indexOp(e edit, s *one, old string, there bool) (api.Op, api.Answer, []edit) {
	op := api.Op{Store: e.store, Key: e.item, Val: e.val}
	switch w.next(8) {
	case 0:
		op.Kind = api.OpGet
		if !there {
			return op, err(api.ErrNone), nil
		}
		return op, api.Answer{Val: old}, nil
	case 1, 2:
		op.Kind = api.OpSet
		return unless(there, op, e)
	case 3:
		op.Kind, e.cut = api.OpCut, true
		return unless(there, op, e)
	case 4:
		op.Kind, op.Num = api.OpRange, w.next(9)
		l := slices.DeleteFunc(s.pairs(), func(p api.Pair) bool { return p.Key < op.Key })
		return op, api.Answer{Pairs: l[:min(len(l), op.Num)]}, nil
	}
	op.Kind = api.OpPut
	if there {
		return op, err(api.ErrThere), nil
	}
	return op, api.Answer{}, []edit{e}
}

func (w *world) objectOp(e edit, old string, there bool) (api.Op, api.Answer, []edit) {
	op := api.Op{Store: e.store, Num: numberOf(e.item), At: w.next(len(old) + 1), Val: e.val}
	switch w.next(8) {
	case 0:
		op.Kind = api.OpLen
		if !there {
			return op, err(api.ErrNone), nil
		}
		return op, api.Answer{Num: len(old)}, nil
	case 1:
		op.Kind, op.Len = api.OpPiece, w.next(len(old)-op.At+1)
		if !there {
			return op, err(api.ErrNone), nil
		}
		return op, api.Answer{Val: old[op.At : op.At+op.Len]}, nil
	case 2:
		op.Kind, op.Len, e.val = api.OpTruncate, op.At, old[:op.At]
		return unless(there, op, e)
	case 3:
		op.Kind, e.cut = api.OpDestroy, true
		return unless(there, op, e)
	case 4, 5:
		op.Kind, e.val = api.OpNew, ""
		if there {
			return op, err(api.ErrThere), nil
		}
		return op, api.Answer{}, []edit{e}
	}
	op.Kind = api.OpWrite
	e.val = old[:op.At] + op.Val
	if len(e.val) < len(old) {
		e.val += old[len(e.val):]
	}
	return unless(there, op, e)
}

// work does one operation of a slot, and holds the answer against what it should be.
func (w *world) work(i int) {
	l := w.lives[i]
	op, want, edits := w.op(i)
	a := w.b.Do(l.x, op, nil)
	if a.Err == api.ErrDown {
		w.down = true
		return
	}
	room := a.Err == api.ErrFull || a.Err == api.ErrSpace || a.Err == api.ErrMany && op.Kind == api.OpMake
	if room {
		if !same(a, err(a.Err)) {
			w.t.Fatalf("%+v: %+v", op, a)
		}
		w.full++
		return
	}
	if op.Kind == api.OpMake && a.Err == api.OK { // a store that is a ghost still has its number
		if m := w.now(); m[a.Num] != nil || a.Num < want.Num || a.Num > 6 {
			w.t.Fatal(a)
		}
		want.Num, edits[0].store = a.Num, a.Num
	}
	if op.Kind == api.OpInsert && want.Err == api.OK {
		item := base.Item(a.Num)
		if _, there := w.now()[op.Store].items[item]; there {
			w.t.Fatal("the id of another record", a)
		}
		w.of[api.Name{Store: op.Store, Item: item}] = i
		want.Num, edits[0].item = a.Num, item
	}
	if !same(a, want) {
		w.t.Fatalf("%+v: %+v, not %+v", op, a, want)
	}
	l.edits = append(l.edits, edits...)
	w.done++
}

// end: a transaction of a slot ends.
func (w *world) end(i int, kind int) {
	l := w.lives[i]
	a := w.b.Do(l.x, api.Op{Kind: kind}, nil)
	if a.Err == api.ErrDown {
		w.down = true
		if kind == api.OpCommit {
			w.maybe = l.edits
		}
		return
	}
	if !same(a, api.Answer{}) {
		w.t.Fatal("an end is refused", a)
	}
	if kind == api.OpCommit {
		w.firm = w.firm.with(l.edits)
	}
	w.lives[i] = nil
}

// back: a slot goes back to a savepoint, or makes one.
func (w *world) back(i int) {
	l := w.lives[i]
	if len(l.saves) == 0 || w.next(2) == 0 {
		a := w.b.Do(l.x, save, nil)
		if a.Err != api.OK {
			w.t.Fatal(a)
		}
		l.saves = append(l.saves, [2]int{a.Num, len(l.edits)})
		return
	}
	k := w.next(len(l.saves))
	a := w.b.Do(l.x, api.Op{Kind: api.OpBack, Num: l.saves[k][0]}, nil)
	if a.Err == api.ErrDown {
		w.down = true
		return
	}
	if !same(a, api.Answer{}) {
		w.t.Fatal("Back is refused", a)
	}
	l.edits, l.saves = l.edits[:l.saves[k][1]:l.saves[k][1]], l.saves[:k+1]
}

// structural: has a slot made or dropped a store? Then it stays alone.
func (w *world) structural() bool {
	for _, l := range w.lives {
		if l != nil && slices.ContainsFunc(l.edits, func(e edit) bool { return e.kind != 0 }) {
			return true
		}
	}
	return false
}

// turn does something at some slot.
func (w *world) turn() {
	i := w.next(len(w.lives))
	if w.lives[i] == nil {
		if w.structural() {
			return
		}
		a := w.b.Do(0, api.Op{Kind: api.OpBegin}, nil)
		if a.Err == api.ErrDown {
			w.down = true
		} else if a.Err == api.OK {
			w.lives[i] = &life{x: a.Num}
		} else if a.Err != api.ErrFull {
			w.t.Fatal(a)
		}
		return
	}
	switch w.next(16) {
	case 0, 1:
		w.end(i, api.OpCommit)
	case 2:
		w.end(i, api.OpAbort)
	case 3:
		w.back(i)
	case 4:
		if w.next(4) == 0 {
			if e := w.b.Checkpoint(); e == api.ErrDown {
				w.down = true
			} else if e != api.OK && e != api.ErrFull {
				w.t.Fatal(e)
			}
		}
	default:
		w.work(i)
	}
}

func (w *world) look() {
	w.t.Helper()
	l, e := w.b.Shelves()
	if want := w.now().shelves(); e != api.OK || !slices.EqualFunc(l, want, sameShelf) {
		w.t.Fatalf("%+v, %d, not %+v", l, e, want)
	}
}

func begun(t *testing.T, seed uint64, pages, sectors, frames int) *world {
	d, b := volume(t, pages, sectors, frames)
	return &world{t: t, next: random(seed), d: d, b: b, firm: maps{}, of: map[api.Name]int{}}
}

func TestMaps(t *testing.T) { // P19.1, P19.3
	full, done := 0, 0
	for round := range 64 {
		w := begun(t, uint64(round), []int{7, 12, 30, 300}[round%4], []int{128, 200, 600, 2000}[round/4%4], 4+round%20)
		for k := range 1200 {
			w.turn()
			if k%7 == 0 {
				w.look()
			}
		}
		for i, l := range w.lives {
			if l != nil {
				w.end(i, []int{api.OpCommit, api.OpAbort}[w.next(2)])
			}
		}
		w.look()
		if w.down {
			t.Fatal("down")
		}
		full, done = full+w.full, done+w.done
	}
	if full < 50 || done < 5000 {
		t.Fatal("hardly anything was done, or refused", full, done)
	}
}

// crash: the device is what a crash leaves, mounted, as often as it gives out over it.
func (w *world) crash() {
	w.t.Helper()
	for try := 0; ; try++ {
		keep := make([]bool, w.d.Pending())
		way := w.next(5)
		for i := range keep {
			keep[i] = way == 0 || way > 1 && w.next(way) == 0
		}
		w.d = w.d.Crash(keep)
		if try < 4 && w.next(3) > 0 {
			w.d.Fuel(w.next(60))
		}
		b, e := base.Mount(w.d, 4+w.next(12))
		if e == api.ErrDown {
			continue
		}
		if e != api.OK {
			w.t.Fatal("no volume any more", e)
		}
		w.b = b
		break
	}
	w.d.Fuel(-1)
	w.down, w.lives = false, [4]*life{}
	l, e := w.b.Shelves()
	if e != api.OK || len(w.b.Lives()) != 0 {
		w.t.Fatal(e, w.b.Lives())
	}
	if w.maybe != nil && !slices.EqualFunc(l, w.firm.shelves(), sameShelf) {
		w.firm = w.firm.with(w.maybe)
	}
	w.maybe = nil
	w.look()
}

func TestCrashes(t *testing.T) { // P19.2, P3, P4
	if testing.Short() {
		t.Skip()
	}
	done := 0
	for round := range 40 {
		w := begun(t, 1000+uint64(round), []int{12, 30, 80}[round%3], []int{128, 200, 600}[round/3%3], 4+round%12)
		for range 60 {
			w.d.Fuel(w.next([]int{10, 60, 400}[w.next(3)]))
			for range w.next(150) {
				if w.turn(); w.down {
					break
				}
			}
			w.crash()
		}
		done += w.done
	}
	if done < 3000 {
		t.Fatal("hardly anything was done", done)
	}
}

func TestEachPlaceOfACrash(t *testing.T) { // P19.2: the device gives out at each write, one after the other
	script := func(b *base.Base) (commits int, e api.Errno) {
		for round := range 3 {
			a := b.Do(0, api.Op{Kind: api.OpBegin}, nil)
			x := a.Num
			ops := []api.Op{put(1, string([]byte{byte('a' + round)}), "v"), insert(2, "r"), put(1, string([]byte{'z', byte(round)}), "w")}
			if round == 0 {
				ops = append([]api.Op{newStore(api.Index), newStore(api.Heap)}, ops...)
			}
			if round == 2 {
				ops = append(ops, api.Op{Kind: api.OpDrop, Store: 2})
			}
			for _, op := range ops {
				if a.Err == api.OK {
					a = b.Do(x, op, nil)
				}
			}
			if a.Err == api.OK && round == 1 {
				a.Err = b.Checkpoint()
			}
			if a.Err == api.OK {
				a = b.Do(x, commit, nil)
			}
			if a.Err != api.OK {
				return round, a.Err
			}
		}
		return 3, b.Checkpoint()
	}
	want := func(n int) []api.Shelf {
		keys := &one{api.Index, map[string]string{}}
		recs := &one{api.Heap, map[string]string{}}
		for i := range n {
			keys.items[string([]byte{byte('a' + i)})] = "v"
			keys.items[string([]byte{'z', byte(i)})] = "w"
			recs.items[base.Item(24+i)] = "r"
		}
		switch n {
		case 0:
			return nil
		case 3:
			return maps{1: keys}.shelves()
		}
		return maps{1: keys, 2: recs}.shelves()
	}
	for fuel := 0; ; fuel++ {
		for _, way := range []int{0, 1, 2} {
			d, b := volume(t, 12, 128, 4)
			d.Fuel(fuel)
			n, e := script(b)
			keep := make([]bool, d.Pending())
			for i := range keep {
				keep[i] = way == 1 || way == 2 && i%2 == 0
			}
			d = d.Crash(keep)
			for more := range 12 { // and Mount gives out, too
				d.Fuel(more)
				if _, e := base.Mount(d, 4); e != api.ErrDown && e != api.OK {
					t.Fatal(fuel, more, e)
				}
				keep := make([]bool, d.Pending())
				for i := range keep {
					keep[i] = (i+more)%3 > 0
				}
				d = d.Crash(keep)
			}
			l, e2 := mount(t, d, 4).Shelves()
			if e2 != api.OK || !slices.EqualFunc(l, want(n), sameShelf) && (e == api.OK || n == 3 || !slices.EqualFunc(l, want(n+1), sameShelf)) {
				t.Fatalf("fuel %d: %d commits, and then %+v, %d", fuel, n, l, e2)
			}
			if e == api.OK && way == 2 {
				return
			}
		}
	}
}

func TestFormatInPlace(t *testing.T) { // P19.2: the device gives out while a volume is laid over another one
	for fuel := 0; ; fuel++ {
		for _, way := range []int{0, 1, 2, 3} {
			d, b := volume(t, 12, 128, 4)
			for i := range 3 {
				x := begin(t, b)
				ok(t, b, x, newStore(1+i))
				ok(t, b, x, commit)
				if e := b.Checkpoint(); e != api.OK {
					t.Fatal(e)
				}
			}
			d.Fuel(fuel)
			e := base.Format(d, 10, 130)
			if e != api.OK && e != api.ErrDown {
				t.Fatal(fuel, e)
			}
			keep := make([]bool, d.Pending())
			for i := range keep {
				keep[i] = way == 1 || way > 1 && i%2 == way%2
			}
			b, e2 := base.Mount(d.Crash(keep), 4)
			if e == api.OK && e2 != api.OK {
				t.Fatal(fuel, way, e2)
			}
			if l, e3 := b.Shelves(); e == api.OK && (e3 != api.OK || len(l) != 0) {
				t.Fatal(fuel, way, l, e3)
			}
			if e == api.OK && way == 3 {
				return
			}
		}
	}
}

func TestRestartWithAFullLog(t *testing.T) { // P19.2, P4: eight transactions have filled the log; all of it can be taken back
	for _, sectors := range []int{128, 129, 200, 500} {
		d, b := volume(t, 60, sectors, 8)
		x := begin(t, b)
		ok(t, b, x, newStore(api.Index))
		ok(t, b, x, newStore(api.Object))
		ok(t, b, x, commit)
		var xs []int
		for range 8 {
			if a := b.Do(0, api.Op{Kind: api.OpBegin}, nil); a.Err == api.OK {
				xs = append(xs, a.Num)
			}
		}
		n, last := 0, 0
		for refused := 0; refused < 20; n++ {
			i := n % len(xs)
			a := b.Do(xs[i], put(1, string([]byte{byte(i), byte(n)}), "12345678901234567890"), nil)
			if a.Err == api.ErrFull {
				refused++
			} else if a.Err != api.OK {
				t.Fatal(a)
			} else {
				last = i
			}
			if refused == 5 {
				b.Do(xs[last], api.Op{Kind: api.OpBack}, nil)
			}
		}
		// A commit makes all of the log firm.
		if a := b.Do(xs[last], commit, nil); a.Err != api.OK {
			t.Fatal(a)
		}
		l, _ := b.Shelves()
		for try := range 40 {
			keep := make([]bool, d.Pending())
			for i := range keep {
				keep[i] = i%2 == try%2
			}
			d = d.Crash(keep)
			d.Fuel(3 * try)
			if _, e := base.Mount(d, 4); e != api.OK && e != api.ErrDown {
				t.Fatal(sectors, try, e)
			}
		}
		b = mount(t, d.Crash(nil), 4)
		got, e := b.Shelves()
		if e != api.OK || len(got) != 2 || len(l) != 2 {
			t.Fatal(e)
		}
		for _, p := range got[0].Pairs {
			if int(p.Key[0]) != last {
				t.Fatal(sectors, "of a transaction that didn't commit", p)
			}
		}
	}
}
