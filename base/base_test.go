package base_test

import (
	"math"
	"slices"
	"strings"
	"testing"

	"jetty/api"
	"jetty/base"
	"jetty/disk"
	"jetty/lob"
	"jetty/space"
	"jetty/stage"
	"jetty/tree"
)

// volume: a new one, mounted.
func volume(t *testing.T, pages, sectors, frames int) (*disk.Disk, *base.Base) {
	t.Helper()
	n, e := base.Size(pages, sectors)
	if e != api.OK {
		t.Fatal(e)
	}
	d, e := disk.New(n)
	if e != api.OK {
		t.Fatal(e)
	}
	if e := base.Format(d, pages, sectors); e != api.OK {
		t.Fatal(e)
	}
	return d, mount(t, d, frames)
}

func mount(t *testing.T, d *disk.Disk, frames int) *base.Base {
	t.Helper()
	b, e := base.Mount(d, frames)
	if b == nil || e != api.OK {
		t.Fatal(e)
	}
	return b
}

// same: are two answers one and the same (an empty list is none)?
func same(a, b api.Answer) bool {
	return a.Err == b.Err && a.Wait == b.Wait && a.Num == b.Num && a.Val == b.Val && slices.Equal(a.Pairs, b.Pairs)
}

func do(t *testing.T, b *base.Base, x int, op api.Op, want api.Answer) {
	t.Helper()
	if a := b.Do(x, op, nil); !same(a, want) {
		t.Fatalf("%+v: %+v, not %+v", op, a, want)
	}
}

func ok(t *testing.T, b *base.Base, x int, op api.Op) api.Answer {
	t.Helper()
	a := b.Do(x, op, nil)
	if a.Err != api.OK || a.Wait {
		t.Fatalf("%+v: %+v", op, a)
	}
	return a
}

func begin(t *testing.T, b *base.Base) int {
	t.Helper()
	return ok(t, b, 0, api.Op{Kind: api.OpBegin}).Num
}

func shelves(t *testing.T, b *base.Base, want ...api.Shelf) {
	t.Helper()
	l, e := b.Shelves()
	if e != api.OK || !slices.EqualFunc(l, want, sameShelf) {
		t.Fatalf("%+v, %d, not %+v", l, e, want)
	}
}

func sameShelf(a, b api.Shelf) bool {
	return a.Store == b.Store && a.Kind == b.Kind && slices.Equal(a.Pairs, b.Pairs)
}

func err(e api.Errno) api.Answer { return api.Answer{Err: e} }

// Short forms of operations.
var (
	commit = api.Op{Kind: api.OpCommit}
	abort  = api.Op{Kind: api.OpAbort}
	save   = api.Op{Kind: api.OpSave}
)

func put(store int, key, val string) api.Op {
	return api.Op{Kind: api.OpPut, Store: store, Key: key, Val: val}
}

func insert(store int, val string) api.Op {
	return api.Op{Kind: api.OpInsert, Store: store, Val: val}
}

func newStore(kind int) api.Op { return api.Op{Kind: api.OpMake, Num: kind} }

func TestSize(t *testing.T) { // P19.1
	for _, c := range [][3]int{{16, 256, 322}, {4, 128, 146}, {1024, 4096, 8194}, {4, 4096, 4114}, {1024, 128, 4226}} {
		if n, e := base.Size(c[0], c[1]); n != c[2] || e != api.OK {
			t.Fatal(c, n, e)
		}
	}
	for _, c := range [][2]int{{3, 256}, {1025, 256}, {16, 127}, {16, 4097}, {0, 0}, {-1, 256}, {16, -1}, {math.MinInt, 256}, {math.MaxInt, math.MaxInt}} {
		if n, e := base.Size(c[0], c[1]); n != 0 || e != api.ErrArg {
			t.Fatal(c, n, e)
		}
		d, _ := disk.New(api.MaxSectors)
		if e := base.Format(d, c[0], c[1]); e != api.ErrArg || d.Pending() != 0 {
			t.Fatal(c, e)
		}
	}
}

func TestItem(t *testing.T) { // P19.1
	for _, c := range []struct {
		id   int
		want string
	}{{0, "\x00\x00\x00\x00"}, {16, "\x10\x00\x00\x00"}, {258, "\x02\x01\x00\x00"}, {-1, "\x00\x00\x00\x00"}, {math.MinInt, "\x00\x00\x00\x00"},
		{1<<32 + 5, "\x05\x00\x00\x00"}, {math.MaxInt, "\xff\xff\xff\xff"}, {1<<32 - 1, "\xff\xff\xff\xff"}} {
		if s := base.Item(c.id); s != c.want {
			t.Fatalf("%d: %x", c.id, s)
		}
	}
}

func TestExample(t *testing.T) { // P19.2
	for _, with := range []bool{false, true} {
		d, b := volume(t, 16, 256, 16)
		do(t, b, 0, api.Op{Kind: api.OpBegin}, api.Answer{Num: 1})
		do(t, b, 1, newStore(api.Index), api.Answer{Num: 1})
		do(t, b, 1, put(1, "a", "1"), api.Answer{})
		if with {
			do(t, b, 1, commit, api.Answer{})
		}
		b = mount(t, d.Crash(nil), 16)
		if with {
			shelves(t, b, api.Shelf{Store: 1, Kind: api.Index, Pairs: []api.Pair{{Key: "a", Val: "1"}}})
		} else {
			shelves(t, b)
		}
		if len(b.Lives()) != 0 {
			t.Fatal(b.Lives())
		}
	}
}

func TestFormatAndMount(t *testing.T) { // P19.1, P19.2
	if e := base.Format(nil, 16, 256); e == api.OK {
		t.Fatal("a volume on no device")
	}
	if b, e := base.Mount(nil, 16); b != nil || e != api.ErrDown {
		t.Fatal(e)
	}
	d, _ := disk.New(321)
	if e := base.Format(d, 16, 256); e != api.ErrArg {
		t.Fatal(e)
	}
	for _, n := range []int{1, 2, 321} {
		d, _ := disk.New(n)
		for _, frames := range []int{16, 0} {
			if b, e := base.Mount(d, frames); b != nil || e != api.ErrForm {
				t.Fatal(n, e)
			}
		}
	}
	d, _ = disk.New(400)
	for i := range 400 {
		d.Write(i, strings.Repeat("j", 64))
	}
	if b, e := base.Mount(d, 16); b != nil || e != api.ErrForm {
		t.Fatal(e)
	}
	if e := base.Format(d, 16, 256); e != api.OK || d.Pending() != 0 {
		t.Fatal(e)
	}
	for _, frames := range []int{math.MinInt, -1, 0, 3, 257, math.MaxInt} {
		if b, e := base.Mount(d, frames); b != nil || e != api.ErrArg {
			t.Fatal(frames, e)
		}
	}
	for _, frames := range []int{4, 256} {
		shelves(t, mount(t, d, frames))
	}
	b := mount(t, d, 4)
	x := begin(t, b)
	for _, kind := range []int{api.Heap, api.Index, api.Object} {
		ok(t, b, x, newStore(kind))
	}
	ok(t, b, x, commit)
	for i := range 40 { // on a device full of junk pages are blank
		x = begin(t, b)
		ok(t, b, x, insert(1, string([]byte{byte(i)})))
		ok(t, b, x, commit)
	}
	d = d.Crash(nil)
	if e := base.Format(d, 8, 128); e != api.OK { // what was there is gone
		t.Fatal(e)
	}
	b = mount(t, d.Crash(nil), 16)
	shelves(t, b)
	if _, n, e := space.Used(stage.New(b.Source())); n != 8 || e != api.OK {
		t.Fatal(n, e)
	}
	d.Crash(nil)
	if b, e := base.Mount(d, 0); b != nil || e != api.ErrDown {
		t.Fatal(e)
	}
	if e := base.Format(d, 16, 256); e != api.ErrDown {
		t.Fatal(e)
	}
}

func TestNil(t *testing.T) { // P19.1: a nil volume is down
	var b *base.Base
	do(t, b, 0, api.Op{Kind: api.OpBegin}, err(api.ErrDown))
	do(t, b, 1, api.Op{}, err(api.ErrDown))
	if l, e := b.Shelves(); l != nil || e != api.ErrDown {
		t.Fatal(e)
	}
	if k, e := b.Next(1, "a"); k != "" || e != api.ErrDown {
		t.Fatal(e)
	}
	if l, e := b.Range(1, "a", 1); l != nil || e != api.ErrDown {
		t.Fatal(e)
	}
	if l, e := b.Restore(api.Undo{}); l != nil || e != api.ErrDown {
		t.Fatal(e)
	}
	if b.Checkpoint() != api.ErrDown || b.Lives() != nil || b.Source() != nil {
		t.Fatal()
	}
}

func TestXct(t *testing.T) { // P19.1
	_, b := volume(t, 16, 256, 16)
	for i := range api.MaxXcts {
		do(t, b, -5, api.Op{Kind: api.OpBegin}, api.Answer{Num: i + 1})
	}
	do(t, b, 1, api.Op{Kind: api.OpBegin}, err(api.ErrMany))
	if !slices.Equal(b.Lives(), []int{1, 2, 3, 4, 5, 6, 7, 8}) {
		t.Fatal(b.Lives())
	}
	for _, x := range []int{0, -1, 9, math.MinInt, math.MaxInt} {
		for kind := -1; kind < 26; kind++ {
			if kind != api.OpBegin {
				do(t, b, x, api.Op{Kind: kind}, err(api.ErrXct))
			}
		}
	}
	for _, kind := range []int{math.MinInt, -1, 0, 24, math.MaxInt} {
		do(t, b, 3, api.Op{Kind: kind}, err(api.ErrArg))
	}
	do(t, b, 3, commit, api.Answer{})
	do(t, b, 3, commit, err(api.ErrXct))
	do(t, b, 4, abort, api.Answer{})
	do(t, b, 4, save, err(api.ErrXct))
	do(t, b, 0, api.Op{Kind: api.OpBegin}, api.Answer{Num: 9})
	if !slices.Equal(b.Lives(), []int{1, 2, 5, 6, 7, 8, 9}) {
		t.Fatal(b.Lives())
	}
}

func TestStores(t *testing.T) { // P19.1
	_, b := volume(t, 40, 1024, 16)
	x := begin(t, b)
	for _, kind := range []int{math.MinInt, -1, 0, 4, math.MaxInt} {
		do(t, b, x, newStore(kind), err(api.ErrArg))
	}
	for i, kind := range []int{api.Heap, api.Index, api.Object, api.Heap, api.Index, api.Object} {
		do(t, b, x, newStore(kind), api.Answer{Num: i + 1})
	}
	do(t, b, x, newStore(api.Heap), err(api.ErrMany))
	for _, store := range []int{math.MinInt, -1, 0, 7, math.MaxInt} {
		for kind := api.OpDrop; kind <= api.OpDestroy; kind++ {
			do(t, b, x, api.Op{Kind: kind, Store: store, Key: "123456789", Val: strings.Repeat("v", 10), Num: -1}, err(api.ErrStore))
		}
	}
	for store, kind := range []int{0, api.Heap, api.Index, api.Object} { // of another kind, ahead of all else
		for op := api.OpInsert; op <= api.OpDestroy && store > 0; op++ {
			right := op <= api.OpList && kind == api.Heap || op >= api.OpPut && op <= api.OpRange && kind == api.Index || op >= api.OpNew && kind == api.Object
			a := b.Do(x, api.Op{Kind: op, Store: store, Key: "123456789", Num: -1, At: -1, Len: -1}, nil)
			if !right && !same(a, err(api.ErrStore)) || right && a.Err == api.ErrStore {
				t.Fatal(store, op, a)
			}
		}
	}
	ok(t, b, x, api.Op{Kind: api.OpDelete, Store: 1, Num: b.Do(x, api.Op{Kind: api.OpList, Store: 1}, nil).Pairs[0].Id})
	ok(t, b, x, commit)
	x = begin(t, b)
	do(t, b, x, api.Op{Kind: api.OpDrop, Store: 2}, api.Answer{})
	do(t, b, x, api.Op{Kind: api.OpDrop, Store: 2}, err(api.ErrStore))
	do(t, b, x, put(2, "a", "b"), err(api.ErrStore))
	do(t, b, x, newStore(api.Heap), err(api.ErrMany))
	ok(t, b, x, abort)
	x = begin(t, b)
	do(t, b, x, put(2, "a", "b"), api.Answer{})
	do(t, b, x, api.Op{Kind: api.OpDrop, Store: 2}, api.Answer{})
	do(t, b, x, api.Op{Kind: api.OpDrop, Store: 6}, api.Answer{})
	ok(t, b, x, commit)
	x = begin(t, b)
	do(t, b, x, newStore(api.Index), api.Answer{Num: 2})
	do(t, b, x, api.Op{Kind: api.OpGet, Store: 2, Key: "a"}, err(api.ErrNone))
	ok(t, b, x, abort)
	if l, e := b.Shelves(); e != api.OK || len(l) != 4 || l[1].Store != 3 {
		t.Fatal(l, e)
	}
	used, _, _ := space.Used(stage.New(b.Source()))
	if len(used) != 6 { // page 0, page 1, and four roots
		t.Fatal(used)
	}
}

func TestEachOperation(t *testing.T) { // P19.1
	_, b := volume(t, 100, 1024, 16)
	x := begin(t, b)
	for _, kind := range []int{api.Heap, api.Index, api.Object} {
		ok(t, b, x, newStore(kind))
	}
	op := func(kind, store int, key, val string, num, at, n int) api.Op {
		return api.Op{Kind: kind, Store: store, Key: key, Val: val, Num: num, At: at, Len: n}
	}
	long := strings.Repeat("x", 65)
	id := ok(t, b, x, insert(1, "r")).Num
	for _, c := range []struct {
		op   api.Op
		want api.Answer
	}{
		{insert(1, long[:33]), err(api.ErrLong)}, {op(api.OpRead, 1, "k", "v", id, 9, 9), api.Answer{Val: "r"}}, {op(api.OpRead, 1, "", "", 1, 0, 0), err(api.ErrNone)},
		{op(api.OpUpdate, 1, "", long[:32], id, 0, 0), api.Answer{}}, {op(api.OpUpdate, 1, "", long[:33], id, 0, 0), err(api.ErrLong)}, {op(api.OpUpdate, 1, "", "", -7, 0, 0), err(api.ErrNone)},
		{op(api.OpList, 1, "", "", 0, 0, 0), api.Answer{Pairs: []api.Pair{{Id: id, Val: long[:32]}}}}, {op(api.OpDelete, 1, "", "", id, 0, 0), api.Answer{}}, {op(api.OpDelete, 1, "", "", id, 0, 0), err(api.ErrNone)},
		{op(api.OpList, 1, "", "", 0, 0, 0), api.Answer{}},
		{put(2, "k", "v"), api.Answer{}}, {put(2, "k", "v"), err(api.ErrThere)}, {put(2, "", "v"), err(api.ErrArg)}, {put(2, "123456789", "v"), err(api.ErrArg)}, {put(2, "l", long[:21]), err(api.ErrLong)},
		{op(api.OpGet, 2, "k", "", 0, 0, 0), api.Answer{Val: "v"}}, {op(api.OpGet, 2, "l", "", 0, 0, 0), err(api.ErrNone)}, {op(api.OpSet, 2, "k", "w", 0, 0, 0), api.Answer{}}, {op(api.OpSet, 2, "l", "w", 0, 0, 0), err(api.ErrNone)},
		{op(api.OpRange, 2, "", "", 64, 0, 0), api.Answer{Pairs: []api.Pair{{Key: "k", Val: "w"}}}}, {op(api.OpRange, 2, "", "", 65, 0, 0), err(api.ErrArg)}, {op(api.OpRange, 2, "", "", 0, 0, 0), api.Answer{}},
		{op(api.OpCut, 2, "k", "", 0, 0, 0), api.Answer{}}, {op(api.OpCut, 2, "k", "", 0, 0, 0), err(api.ErrNone)}, {op(api.OpGet, 2, "k", "", 0, 0, 0), err(api.ErrNone)},
		{op(api.OpNew, 3, "", "", 999, 0, 0), api.Answer{}}, {op(api.OpNew, 3, "", "", 999, 0, 0), err(api.ErrThere)}, {op(api.OpNew, 3, "", "", 1000, 0, 0), err(api.ErrArg)},
		{op(api.OpLen, 3, "", "", 999, 0, 0), api.Answer{}}, {op(api.OpWrite, 3, "", long[:64], 999, 0, 0), api.Answer{}}, {op(api.OpWrite, 3, "", long, 999, 0, 0), err(api.ErrLong)}, {op(api.OpWrite, 3, "", "x", 999, 65, 0), err(api.ErrArg)},
		{op(api.OpWrite, 3, "", "x", 5, 0, 0), err(api.ErrNone)}, {op(api.OpLen, 3, "", "", 999, 0, 0), api.Answer{Num: 64}}, {op(api.OpPiece, 3, "", "", 999, 60, 4), api.Answer{Val: "xxxx"}}, {op(api.OpPiece, 3, "", "", 999, 60, 5), err(api.ErrArg)},
		{op(api.OpTruncate, 3, "", "", 999, 0, 65), err(api.ErrArg)}, {op(api.OpTruncate, 3, "", "", 999, 0, 17), api.Answer{}}, {op(api.OpLen, 3, "", "", 999, 0, 0), api.Answer{Num: 17}},
		{op(api.OpDestroy, 3, "", "", 998, 0, 0), err(api.ErrNone)}, {op(api.OpDestroy, 3, "", "", 999, 0, 0), api.Answer{}}, {op(api.OpLen, 3, "", "", 999, 0, 0), err(api.ErrNone)}, {op(api.OpLen, 3, "", "", -1, 0, 0), err(api.ErrArg)},
		{op(api.OpBack, 0, "", "", math.MaxInt, 0, 0), api.Answer{}},
	} {
		do(t, b, x, c.op, c.want)
	}
	do(t, b, x, api.Op{Kind: api.OpBack, Num: math.MinInt}, api.Answer{}) // a number that is none: all is taken back
	shelves(t, b)
	do(t, b, x, save, b.Do(x, save, nil))
	ok(t, b, x, commit)
}

func TestSavepoints(t *testing.T) { // P19.1, P19.3
	_, b := volume(t, 40, 512, 4)
	x := begin(t, b)
	ok(t, b, x, newStore(api.Index))
	ok(t, b, x, commit)
	x = begin(t, b)
	do(t, b, x, save, api.Answer{})
	ok(t, b, x, put(1, "a", "1"))
	one := ok(t, b, x, save).Num
	ok(t, b, x, put(1, "b", "2"))
	ok(t, b, x, api.Op{Kind: api.OpSet, Store: 1, Key: "a", Val: "x"})
	two := ok(t, b, x, save).Num
	ok(t, b, x, api.Op{Kind: api.OpCut, Store: 1, Key: "b"})
	back := func(n int, want ...api.Pair) {
		t.Helper()
		do(t, b, x, api.Op{Kind: api.OpBack, Num: n}, api.Answer{})
		shelves(t, b, api.Shelf{Store: 1, Kind: api.Index, Pairs: want})
	}
	back(two, api.Pair{Key: "a", Val: "x"}, api.Pair{Key: "b", Val: "2"})
	back(two, api.Pair{Key: "a", Val: "x"}, api.Pair{Key: "b", Val: "2"})
	back(one, api.Pair{Key: "a", Val: "1"})
	ok(t, b, x, put(1, "c", "3"))
	back(one, api.Pair{Key: "a", Val: "1"})
	ok(t, b, x, put(1, "b", "9"))
	back(0)
	ok(t, b, x, put(1, "d", "4"))
	ok(t, b, x, commit)
	shelves(t, b, api.Shelf{Store: 1, Kind: api.Index, Pairs: []api.Pair{{Key: "d", Val: "4"}}})
}

func TestBackOverMake(t *testing.T) { // P19.1: a store that was taken back is forgotten at the end
	_, b := volume(t, 16, 256, 4)
	x := begin(t, b)
	do(t, b, x, newStore(api.Heap), api.Answer{Num: 1})
	do(t, b, x, api.Op{Kind: api.OpBack}, api.Answer{})
	do(t, b, x, insert(1, "a"), err(api.ErrStore))
	do(t, b, x, newStore(api.Heap), api.Answer{Num: 2}) // the first one is a ghost still
	ok(t, b, x, commit)
	shelves(t, b, api.Shelf{Store: 2, Kind: api.Heap})
	if used, _, _ := space.Used(stage.New(b.Source())); len(used) != 3 {
		t.Fatal(used)
	}
	x = begin(t, b)
	do(t, b, x, newStore(api.Index), api.Answer{Num: 1})
	do(t, b, x, api.Op{Kind: api.OpDrop, Store: 1}, api.Answer{})
	ok(t, b, x, abort)
	shelves(t, b, api.Shelf{Store: 2, Kind: api.Heap})
}

func TestKept(t *testing.T) { // P19.1: what others may take back keeps its place
	_, b := volume(t, 40, 1024, 16)
	x := begin(t, b)
	ok(t, b, x, newStore(api.Heap))
	ok(t, b, x, newStore(api.Index))
	ok(t, b, x, newStore(api.Object))
	var ids []int
	for range 6 {
		ids = append(ids, ok(t, b, x, insert(1, "r")).Num)
	}
	for i := range 6 {
		ok(t, b, x, put(2, string([]byte{byte('a' + i)}), "v"))
	}
	ok(t, b, x, api.Op{Kind: api.OpNew, Store: 3, Num: 5})
	ok(t, b, x, api.Op{Kind: api.OpWrite, Store: 3, Num: 5, Val: strings.Repeat("o", 64)})
	ok(t, b, x, commit)
	one, two := begin(t, b), begin(t, b)
	ok(t, b, one, api.Op{Kind: api.OpDelete, Store: 1, Num: ids[2]})
	ok(t, b, one, api.Op{Kind: api.OpCut, Store: 2, Key: "c"})
	ok(t, b, one, api.Op{Kind: api.OpDestroy, Store: 3, Num: 5})
	for i := range 12 {
		if id := ok(t, b, two, insert(1, "s")).Num; id == ids[2] {
			t.Fatal("the place of a record that may come back")
		}
		ok(t, b, two, put(2, "c"+string([]byte{byte('a' + i)}), "w"))
		ok(t, b, two, api.Op{Kind: api.OpNew, Store: 3, Num: 6 + i})
	}
	if k, e := b.Next(2, "c"); k != "c" || e != api.OK {
		t.Fatal(k, e)
	}
	ok(t, b, two, commit)
	ok(t, b, one, abort)
	do(t, b, begin(t, b), api.Op{Kind: api.OpRead, Store: 1, Num: ids[2]}, api.Answer{Val: "r"})
	l, _ := b.Shelves()
	if len(l[0].Pairs) != 18 || len(l[1].Pairs) != 18 || len(l[2].Pairs) != 13 || l[2].Pairs[0].Val != strings.Repeat("o", 64) {
		t.Fatal(l)
	}
	// Names that are handed in.
	x = begin(t, b)
	ok(t, b, x, api.Op{Kind: api.OpDelete, Store: 1, Num: ids[0]})
	ok(t, b, x, commit)
	x = begin(t, b)
	keep := []api.Name{{}, {Store: 1}, {Store: 1, Item: "odd"}, {Store: 1, Item: base.Item(ids[0])}, {Store: 2, Item: base.Item(ids[1])}}
	a := b.Do(x, insert(1, "t"), keep)
	if a.Err != api.OK || a.Num == ids[0] {
		t.Fatal(a)
	}
	ok(t, b, x, abort)
	x = begin(t, b)
	others := append(keep[:3:3], api.Name{Store: 2, Item: base.Item(ids[0])}, api.Name{Store: 1, Item: string([]byte{byte(ids[0])})}, api.Name{Store: 1, Item: base.Item(ids[0]) + "\x00"})
	if a := b.Do(x, insert(1, "t"), others); a.Err != api.OK || a.Num != ids[0] {
		t.Fatal(a)
	}
}

func TestKeptPieces(t *testing.T) { // P19.1: an object that is handed in keeps the places of its pieces
	_, b := volume(t, 200, 4096, 32)
	x := begin(t, b)
	ok(t, b, x, newStore(api.Object))
	ok(t, b, x, api.Op{Kind: api.OpNew, Store: 1, Num: 5})
	ok(t, b, x, api.Op{Kind: api.OpWrite, Store: 1, Num: 5, Val: strings.Repeat("o", 64)})
	ok(t, b, x, commit)
	x = begin(t, b)
	ok(t, b, x, api.Op{Kind: api.OpDestroy, Store: 1, Num: 5})
	ok(t, b, x, commit)
	x = begin(t, b)
	for i := range 40 {
		op := api.Op{Kind: api.OpNew, Store: 1, Num: []int{4, 6}[i%2] + 100*(i/2)*(2*(i%2)-1)}
		if op.Num < 0 {
			op.Num = i
		}
		a := b.Do(x, op, []api.Name{{Store: 1, Item: base.Item(5)}, {Store: 1, Item: base.Item(1000)}, {Store: 1, Item: "odd"}, {Store: 1, Item: "\xff\xff\xff\xff"}})
		if a.Err != api.OK && a.Err != api.ErrThere && a.Err != api.ErrArg {
			t.Fatal(a)
		}
	}
	s := stage.New(b.Source())
	for i := range 4 {
		key := lob.Key(5, i)
		if k, _, state, e := tree.Seek(s, 1, key); k != key || state != api.Ghost || e != api.OK {
			t.Fatalf("piece %d: %x, %d, %d", i, k, state, e)
		}
	}
}

func TestGhostsAreForgotten(t *testing.T) { // P19.2: by Mount, where the end of a transaction had no time for it
	for _, made := range []int{3, 6} {
		d, b := volume(t, 30, 1000, 8)
		x := begin(t, b)
		for i := range made {
			ok(t, b, x, newStore(1+i%3))
		}
		ok(t, b, x, commit)
		x = begin(t, b)
		for _, store := range []int{1, made} {
			ok(t, b, x, api.Op{Kind: api.OpDrop, Store: store})
		}
		ok(t, b, x, commit)
		b = mount(t, d.Crash(nil), 8)
		s := stage.New(b.Source())
		if used, _, e := space.Used(s); len(used) != made || e != api.OK { // two pages more, two roots less
			t.Fatal(used, e)
		}
		for store := 1; store <= made; store++ {
			_, _, _, e := space.Find(s, store)
			if gone := store == 1 || store == made; gone != (e == api.ErrStore) {
				t.Fatal(store, e)
			}
		}
		if y := begin(t, b); y <= x {
			t.Fatal("each transaction has a new number", x, y)
		}
	}
}

func TestManyKeys(t *testing.T) { // P19.1: more than one call lists
	_, b := volume(t, 300, 4096, 32)
	x := begin(t, b)
	ok(t, b, x, newStore(api.Index))
	var want []api.Pair
	for i := range 200 {
		key := string([]byte{byte(i / 16), byte(i % 16)})
		ok(t, b, x, put(1, key, "v"+key))
		want = append(want, api.Pair{Key: key, Val: "v" + key})
		if i == 63 || i == 64 || i == 127 || i == 128 || i == 199 {
			shelves(t, b, api.Shelf{Store: 1, Kind: api.Index, Pairs: want})
		}
	}
}

func TestKeptKeysAndPieces(t *testing.T) { // P19.1: ghosts whose names are handed in stay
	_, b := volume(t, 200, 4096, 32)
	x := begin(t, b)
	ok(t, b, x, newStore(api.Index))
	ok(t, b, x, newStore(api.Object))
	for i := range 50 {
		ok(t, b, x, put(1, string([]byte{'k', byte(2 * i)}), "v"))
	}
	ok(t, b, x, commit)
	x = begin(t, b)
	var keep []api.Name
	for i := range 50 {
		key := string([]byte{'k', byte(2 * i)})
		ok(t, b, x, api.Op{Kind: api.OpCut, Store: 1, Key: key})
		if i%4 == 0 {
			keep = append(keep, api.Name{Store: 1, Item: key})
		}
	}
	ok(t, b, x, commit)
	x = begin(t, b)
	for i := range 100 {
		if i%8 != 0 {
			if a := b.Do(x, put(1, string([]byte{'k', byte(i)}), "w"), keep); a.Err != api.OK {
				t.Fatal(a)
			}
		}
	}
	for _, n := range keep {
		if k, e := b.Next(1, n.Item); k != n.Item || e != api.OK {
			t.Fatalf("%q is gone: %q, %d", n.Item, k, e)
		}
	}
}

func TestNextAndRange(t *testing.T) { // P19.1
	_, b := volume(t, 60, 1024, 16)
	x := begin(t, b)
	ok(t, b, x, newStore(api.Index))
	ok(t, b, x, newStore(api.Heap))
	next := func(key, want string) {
		t.Helper()
		if k, e := b.Next(1, key); k != want || e != api.OK {
			t.Fatal(key, k, e)
		}
	}
	rng := func(key string, most int, want ...string) {
		t.Helper()
		if l, e := b.Range(1, key, most); !slices.Equal(l, want) || e != api.OK {
			t.Fatalf("%q, %d: %q, %d", key, most, l, e)
		}
	}
	next("", "")
	rng("", 0)
	rng("", 1, "")
	for _, k := range []string{"b", "d", "f", "h"} {
		ok(t, b, x, put(1, k, "v"+k))
	}
	ok(t, b, x, api.Op{Kind: api.OpCut, Store: 1, Key: "d"})
	next("", "b")
	next("b", "b")
	next("c", "d")
	next("i", "")
	next(strings.Repeat("a", 50), "b")
	rng("a", 1, "b")
	rng("a", 2, "b", "d", "f")
	rng("c", 1, "d", "f")
	rng("a", 3, "b", "d", "f", "h")
	rng("a", 4, "b", "d", "f", "h", "")
	rng("e", 64, "f", "h", "")
	rng("i", 5, "")
	rng("12345678", 0)
	for _, store := range []int{-1, 0, 2, 3, 7} {
		if k, e := b.Next(store, "a"); k != "" || e != api.ErrStore {
			t.Fatal(store, e)
		}
		if l, e := b.Range(store, "a", 3); l != nil || e != api.ErrStore {
			t.Fatal(store, e)
		}
		if l, e := b.Range(store, "123456789", 3); l != nil || e != api.ErrArg {
			t.Fatal(store, e)
		}
	}
	for _, most := range []int{math.MinInt, -1, 65, math.MaxInt} {
		if l, e := b.Range(1, "a", most); l != nil || e != api.ErrArg {
			t.Fatal(most, e)
		}
	}
}

func TestRestore(t *testing.T) { // P19.1
	_, b := volume(t, 16, 256, 16)
	x := begin(t, b)
	ok(t, b, x, newStore(api.Heap))
	ok(t, b, x, newStore(api.Index))
	id := ok(t, b, x, insert(1, "r")).Num
	ok(t, b, x, put(2, "k", "v"))
	one := func(u api.Undo, page, slot int, want api.Cell) {
		t.Helper()
		l, e := b.Restore(u)
		if e != api.OK || len(l) != 1 || l[0].Id != page || l[0].Page.Cells[slot] != want {
			t.Fatal(l, e)
		}
	}
	one(api.Undo{Kind: api.UndoCell, Page: id / 8, Slot: id % 8}, id/8, id%8, api.Cell{})
	one(api.Undo{Kind: api.UndoCell, Page: id / 8, Slot: 5, Before: api.Cell{State: api.Ghost, Data: "g"}}, id/8, 5, api.Cell{State: api.Ghost, Data: "g"})
	one(api.Undo{Kind: api.UndoKey, Store: 2, Key: "k"}, 3, 0, api.Cell{State: api.Ghost, Data: "\x01kv"})
	one(api.Undo{Kind: api.UndoDir, Slot: 0}, 0, 0, api.Cell{State: api.Ghost, Data: "\x01\x02\x00\x00\x00"})
	one(api.Undo{Kind: api.UndoDir, Slot: 1, Before: api.Cell{State: api.Ghost}}, 0, 1, api.Cell{State: api.Ghost, Data: "\x02\x03\x00\x00\x00"})
	if l, e := b.Restore(api.Undo{Kind: api.UndoDir, Slot: 1, Before: api.Cell{State: api.Live}}); len(l) != 0 || e != api.OK {
		t.Fatal(l, e)
	}
	for _, u := range []api.Undo{{}, {Kind: 4}, {Kind: -1}, {Kind: api.UndoCell, Slot: 6}, {Kind: api.UndoCell, Page: 16}, {Kind: api.UndoDir, Slot: 3}, {Kind: api.UndoDir, Slot: -1}, {Kind: api.UndoKey, Store: 2}} {
		if l, e := b.Restore(u); l != nil || e != api.ErrArg {
			t.Fatal(u, e)
		}
	}
	if l, e := b.Restore(api.Undo{Kind: api.UndoKey, Store: 2, Key: "none"}); l != nil || e != api.ErrNone {
		t.Fatal(e)
	}
	do(t, b, x, api.Op{Kind: api.OpGet, Store: 2, Key: "k"}, api.Answer{Val: "v"})
}

func TestFull(t *testing.T) { // P19.1, P19.3: a log that is full; Abort and Back are answered with OK
	for _, way := range []int{api.OpAbort, api.OpBack, api.OpCommit} {
		_, b := volume(t, 60, 128, 8)
		x := begin(t, b)
		ok(t, b, x, newStore(api.Index))
		ok(t, b, x, commit)
		for round := range 5 {
			x = begin(t, b)
			y := begin(t, b)
			n := 0
			for {
				a := b.Do(x, put(1, string([]byte{byte(round), byte(n)}), "v"), nil)
				if a.Err == api.ErrFull {
					break
				}
				if !same(a, api.Answer{}) {
					t.Fatal(a)
				}
				n++
			}
			if round == 0 && n < 3 {
				t.Fatal("full already", round, n)
			}
			l, _ := b.Shelves()
			do(t, b, x, put(1, "zz", "v"), err(api.ErrFull))
			shelves(t, b, l...)
			ok(t, b, x, api.Op{Kind: way})
			ok(t, b, y, abort)
			if way == api.OpBack {
				ok(t, b, x, commit)
			}
			if way == api.OpCommit {
				x = begin(t, b)
				for i := range n { // a checkpoint makes room
					ok(t, b, x, api.Op{Kind: api.OpCut, Store: 1, Key: string([]byte{byte(round), byte(i)})})
				}
				ok(t, b, x, commit)
			}
			shelves(t, b, api.Shelf{Store: 1, Kind: api.Index})
		}
	}
}

func TestManyStepsOrNone(t *testing.T) { // P19.1: an operation that is refused in its middle has done nothing
	_, b := volume(t, 60, 200, 8)
	x := begin(t, b)
	ok(t, b, x, newStore(api.Object))
	ok(t, b, x, api.Op{Kind: api.OpNew, Store: 1, Num: 1})
	ok(t, b, x, commit)
	for at := 0; at < 640; at += 64 {
		x = begin(t, b)
		ok(t, b, x, api.Op{Kind: api.OpWrite, Store: 1, Num: 1, At: at, Val: strings.Repeat(string([]byte{byte(at)}), 64)})
		ok(t, b, x, commit)
	}
	l, _ := b.Shelves()
	x = begin(t, b)
	do(t, b, x, api.Op{Kind: api.OpDestroy, Store: 1, Num: 1}, err(api.ErrFull)) // forty pieces are too much for this log
	shelves(t, b, l...)
	do(t, b, x, api.Op{Kind: api.OpLen, Store: 1, Num: 1}, api.Answer{Num: 640})
	ok(t, b, x, commit)
	shelves(t, b, l...)
	if e := b.Checkpoint(); e != api.OK {
		t.Fatal(e)
	}
	x = begin(t, b)
	do(t, b, x, api.Op{Kind: api.OpTruncate, Store: 1, Num: 1, Len: 600}, api.Answer{})
	ok(t, b, x, abort)
	shelves(t, b, l...)
}

func TestAnyStepRefused(t *testing.T) { // P19.1: whichever step of an operation finds the log full
	refused, done := 0, 0
	for others := range 6 { // each one has its end reserved
		for size := range 7 * 21 {
			_, b := volume(t, 60, 128, 8)
			x := begin(t, b)
			ok(t, b, x, newStore(api.Object))
			ok(t, b, x, newStore(api.Index))
			ok(t, b, x, put(2, "k", strings.Repeat("s", size/7)))
			ok(t, b, x, commit)
			for num := 1; num <= 3; num++ {
				x = begin(t, b)
				ok(t, b, x, api.Op{Kind: api.OpNew, Store: 1, Num: num})
				ok(t, b, x, api.Op{Kind: api.OpWrite, Store: 1, Num: num, Val: strings.Repeat("o", 16)})
				ok(t, b, x, commit)
			}
			if e := b.Checkpoint(); e != api.OK {
				t.Fatal(e)
			}
			x = begin(t, b)
			for range others {
				begin(t, b)
			}
			for i := range 15 { // each one takes some bytes more or less
				b.Do(x, api.Op{Kind: api.OpSet, Store: 2, Key: "k", Val: strings.Repeat("t", (size+6-i%7)/7)}, nil)
			}
			before, _ := b.Shelves()
			val := strings.Repeat("w", 32)
			a := b.Do(x, api.Op{Kind: api.OpWrite, Store: 1, Num: 2, Val: val}, nil) // its first step needs a few bytes more than its second
			if a.Err == api.ErrFull {
				shelves(t, b, before...)
				refused++
				continue
			}
			if !same(a, api.Answer{}) {
				t.Fatal(a)
			}
			do(t, b, x, api.Op{Kind: api.OpPiece, Store: 1, Num: 2, Len: 32}, api.Answer{Val: val})
			done++
		}
	}
	if refused == 0 || done == 0 {
		t.Fatal(refused, done)
	}
}

func TestCheckpoint(t *testing.T) { // P19.1, P19.2
	d, b := volume(t, 30, 128, 8)
	x := begin(t, b)
	ok(t, b, x, newStore(api.Heap))
	if e := b.Checkpoint(); e != api.OK {
		t.Fatal(e)
	}
	id := ok(t, b, x, insert(1, "a")).Num
	ok(t, b, x, commit)
	for range 300 { // far more than the log holds
		x = begin(t, b)
		ok(t, b, x, api.Op{Kind: api.OpUpdate, Store: 1, Num: id, Val: "b"})
		ok(t, b, x, commit)
	}
	x = begin(t, b)
	ok(t, b, x, api.Op{Kind: api.OpUpdate, Store: 1, Num: id, Val: "c"})
	for range 3 { // somebody lives
		if e := b.Checkpoint(); e != api.OK {
			t.Fatal(e)
		}
	}
	b = mount(t, d.Crash(nil), 8)
	shelves(t, b, api.Shelf{Store: 1, Kind: api.Heap, Pairs: []api.Pair{{Id: id, Val: "b"}}})
	if y := begin(t, b); y <= x {
		t.Fatal("each transaction has a new number", x, y)
	}
}

func TestMastersByTurns(t *testing.T) { // P19.1: one of the two sectors, by turns
	d, b := volume(t, 30, 128, 8)
	pair := func() [2]string {
		t.Helper()
		one, _ := d.Read(0)
		two, _ := d.Read(1)
		return [2]string{one, two}
	}
	old, turn := pair(), -1
	for i := range 8 {
		x := begin(t, b)
		if i == 0 {
			ok(t, b, x, newStore(api.Heap))
		} else {
			ok(t, b, x, insert(1, "r"))
		}
		if i%3 > 0 {
			ok(t, b, x, commit)
		}
		if e := b.Checkpoint(); e != api.OK {
			t.Fatal(e)
		}
		if i%3 == 0 {
			ok(t, b, x, commit)
			if e := b.Checkpoint(); e != api.OK {
				t.Fatal(e)
			}
			old, turn = pair(), -1
			continue
		}
		now := pair()
		if d.Pending() != 0 {
			t.Fatal("no barrier behind it")
		}
		if (now[0] != old[0]) == (now[1] != old[1]) {
			t.Fatal("not just one of the two")
		}
		wrote := 0
		if now[1] != old[1] {
			wrote = 1
		}
		if wrote == turn {
			t.Fatal("the same one again")
		}
		old, turn = now, wrote
	}
}

func TestDown(t *testing.T) { // P19.1: behind ErrDown there is nothing but ErrDown
	d, b := volume(t, 30, 256, 4)
	x := begin(t, b)
	ok(t, b, x, newStore(api.Heap))
	d.Fuel(0)
	do(t, b, x, commit, err(api.ErrDown))
	for kind := range 25 {
		do(t, b, x, api.Op{Kind: kind}, err(api.ErrDown))
		do(t, b, 99, api.Op{Kind: kind}, err(api.ErrDown))
	}
	if l, e := b.Shelves(); l != nil || e != api.ErrDown {
		t.Fatal(e)
	}
	if e := b.Checkpoint(); e != api.ErrDown {
		t.Fatal(e)
	}
	d, b = volume(t, 30, 256, 4)
	d.Fuel(0)
	if e := b.Checkpoint(); e != api.ErrDown {
		t.Fatal(e)
	}
	do(t, b, 0, api.Op{Kind: api.OpBegin}, err(api.ErrDown))
	d, b = volume(t, 30, 256, 4)
	d.Crash(nil)
	if e := b.Checkpoint(); e != api.ErrDown {
		t.Fatal(e)
	}
}
