package desk_test

import (
	"math"
	"slices"
	"strings"
	"testing"

	"jetty/api"
	"jetty/base"
	"jetty/desk"
	"jetty/disk"
	"jetty/plan"
	"jetty/waits"
)

// mounted: a new volume.
func mounted(t *testing.T, pages, sectors int) (*disk.Disk, *base.Base) {
	t.Helper()
	n, e := base.Size(pages, sectors)
	if e != api.OK {
		t.Fatal(e)
	}
	d, _ := disk.New(n)
	if e := base.Format(d, pages, sectors); e != api.OK {
		t.Fatal(e)
	}
	b, e := base.Mount(d, 16)
	if e != api.OK {
		t.Fatal(e)
	}
	return d, b
}

func open(t *testing.T, b *base.Base, slots, most int) *desk.Desk {
	t.Helper()
	d, e := desk.New(b, slots, most)
	if d == nil || e != api.OK {
		t.Fatal(e)
	}
	return d
}

func same(a, b api.Answer) bool {
	return a.Err == b.Err && a.Wait == b.Wait && a.Num == b.Num && a.Val == b.Val && slices.Equal(a.Pairs, b.Pairs)
}

func err(e api.Errno) api.Answer { return api.Answer{Err: e} }

var (
	fine   = api.Answer{}
	wait   = api.Answer{Wait: true}
	begin  = api.Op{Kind: api.OpBegin}
	commit = api.Op{Kind: api.OpCommit}
	abort  = api.Op{Kind: api.OpAbort}
)

func do(t *testing.T, d *desk.Desk, i int, op api.Op, want api.Answer) {
	t.Helper()
	if a := d.Do(i, op); !same(a, want) {
		t.Fatalf("%d %+v: %+v, not %+v", i, op, a, want)
	}
	if d.Busy(i) != want.Wait && want.Err != api.ErrBusy {
		t.Fatal("busy", d.Busy(i))
	}
}

func step(t *testing.T, d *desk.Desk, i int, want api.Answer) {
	t.Helper()
	if a := d.Step(i); !same(a, want) {
		t.Fatalf("step %d: %+v, not %+v", i, a, want)
	}
}

func key(kind int, k, v string) api.Op {
	return api.Op{Kind: kind, Store: 1, Key: k, Val: v}
}

func scan(from string, most int) api.Op {
	return api.Op{Kind: api.OpRange, Store: 1, Key: from, Num: most}
}

func get(k string) api.Op { return key(api.OpGet, k, "") }

func cut(k string) api.Op { return key(api.OpCut, k, "") }

func set(k string) api.Op { return key(api.OpSet, k, "n") }

func put(k string) api.Op { return key(api.OpPut, k, "v") }

// index: sessions over a volume whose store 1 is an index of some keys.
func index(t *testing.T, slots, most int, keys ...string) (*base.Base, *desk.Desk) {
	t.Helper()
	_, b := mounted(t, 60, 1000)
	d := open(t, b, slots, most)
	do(t, d, 0, begin, fine)
	do(t, d, 0, api.Op{Kind: api.OpMake, Num: api.Index}, api.Answer{Num: 1})
	for _, k := range keys {
		do(t, d, 0, put(k), fine)
	}
	do(t, d, 0, commit, fine)
	for i := range slots {
		do(t, d, i, begin, fine)
	}
	return b, d
}

func hold(store int, item string, x, mode, wants int) api.Hold {
	return api.Hold{Name: api.Name{Store: store, Item: item}, Xct: x, Mode: mode, Wants: wants}
}

func locked(t *testing.T, d *desk.Desk, want ...api.Hold) {
	t.Helper()
	if l := d.Locks(); !slices.Equal(l, want) {
		t.Fatal(l, want)
	}
}

func TestNew(t *testing.T) { // P21.1
	_, b := mounted(t, 16, 256)
	for _, slots := range []int{math.MinInt, -1, 0, 9, math.MaxInt} {
		if d, e := desk.New(b, slots, 5); d != nil || e != api.ErrArg {
			t.Fatal(slots, e)
		}
	}
	for _, most := range []int{math.MinInt, -1, 0} {
		if d, e := desk.New(b, 3, most); d != nil || e != api.ErrArg {
			t.Fatal(most, e)
		}
	}
	if d, e := desk.New(nil, 3, 5); d != nil || e != api.ErrArg {
		t.Fatal(e)
	}
	for _, slots := range []int{1, 8} {
		for _, most := range []int{1, math.MaxInt} {
			d := open(t, b, slots, most)
			for _, i := range []int{math.MinInt, -1, slots, math.MaxInt} {
				do(t, d, i, begin, err(api.ErrArg))
				step(t, d, i, err(api.ErrArg))
				if d.Busy(i) || d.Open(i) {
					t.Fatal(i)
				}
			}
			if d.Busy(slots-1) || d.Open(slots-1) || len(d.Locks()) != 0 || len(d.Arcs()) != 0 {
				t.Fatal()
			}
		}
	}
	var d *desk.Desk
	do(t, d, 0, begin, err(api.ErrArg))
	step(t, d, 0, err(api.ErrArg))
	if d.Busy(0) || d.Open(0) || d.Locks() != nil || d.Arcs() != nil {
		t.Fatal()
	}
}

func TestRefusals(t *testing.T) { // P21.1
	_, b := mounted(t, 16, 256)
	d := open(t, b, 3, 5)
	for kind := -1; kind < 26; kind++ {
		if kind != api.OpBegin {
			do(t, d, 1, api.Op{Kind: kind}, err(api.ErrXct))
		}
	}
	step(t, d, 1, err(api.ErrBusy))
	do(t, d, 1, begin, fine) // Num 0, whatever the transaction's number
	if !d.Open(1) || d.Open(0) || d.Busy(1) {
		t.Fatal()
	}
	do(t, d, 1, begin, err(api.ErrBusy))
	do(t, d, 1, api.Op{Kind: 99}, err(api.ErrArg))
	do(t, d, 1, get("a"), err(api.ErrStore))
	locked(t, d, hold(0, "", 1, api.IS, 0), hold(1, "", 1, api.IS, 0))
	do(t, d, 1, api.Op{Kind: api.OpMake, Num: 9}, err(api.ErrArg))
	locked(t, d, hold(0, "", 1, api.X, 0), hold(1, "", 1, api.IS, 0))
	do(t, d, 1, commit, fine)
	if d.Open(1) {
		t.Fatal()
	}
	locked(t, d)
	do(t, d, 1, commit, err(api.ErrXct))
	for i := range 3 {
		do(t, d, i, begin, fine)
	}
	if !slices.Equal(b.Lives(), []int{2, 3, 4}) {
		t.Fatal(b.Lives())
	}
}

func TestExamples(t *testing.T) { // P21.1
	_, d := index(t, 2, 64, "a", "b")
	do(t, d, 0, get("a"), api.Answer{Val: "v"})
	do(t, d, 1, cut("a"), wait)
	if !d.Busy(1) || !slices.Equal(d.Arcs(), [][2]int{{1, 0}}) {
		t.Fatal(d.Arcs())
	}
	do(t, d, 1, get("a"), err(api.ErrBusy))
	do(t, d, 1, begin, err(api.ErrBusy))
	step(t, d, 1, wait)
	do(t, d, 0, get("a"), api.Answer{Val: "v"})
	do(t, d, 0, commit, fine)
	step(t, d, 1, fine)
	step(t, d, 1, err(api.ErrBusy))
	do(t, d, 1, commit, fine)
	locked(t, d)

	_, d = index(t, 2, 64, "a", "b")
	do(t, d, 0, set("a"), fine)
	do(t, d, 1, set("b"), fine)
	do(t, d, 0, set("b"), wait)
	do(t, d, 1, set("a"), err(api.ErrDead))
	if d.Open(1) || d.Busy(1) || !d.Open(0) || !d.Busy(0) {
		t.Fatal()
	}
	step(t, d, 0, fine)
	do(t, d, 1, commit, err(api.ErrXct))
	do(t, d, 0, commit, fine)
}

func TestTheOtherOneIsTheVictim(t *testing.T) { // P21.1, P21.3
	b, d := index(t, 3, 64, "a", "b", "c")
	do(t, d, 2, set("c"), fine)
	do(t, d, 0, set("a"), fine)
	do(t, d, 2, set("a"), wait)
	do(t, d, 0, set("c"), fine) // the younger one, 2, gave way at once
	if d.Open(2) || !d.Busy(2) || len(d.Arcs()) != 0 {
		t.Fatal("the victim hears of it later", d.Arcs())
	}
	do(t, d, 2, begin, err(api.ErrBusy))
	do(t, d, 2, get("a"), err(api.ErrBusy))
	if !slices.Equal(b.Lives(), []int{2, 3}) {
		t.Fatal(b.Lives())
	}
	step(t, d, 2, err(api.ErrDead))
	if d.Busy(2) {
		t.Fatal()
	}
	step(t, d, 2, err(api.ErrBusy))
	do(t, d, 2, begin, fine)
	do(t, d, 0, commit, fine)
	do(t, d, 2, get("c"), api.Answer{Val: "n"})
}

func TestCircleOfThree(t *testing.T) { // P21.3: the youngest of the circle, and nobody else
	_, d := index(t, 4, 64, "a", "b", "c", "d")
	for i, k := range []string{"a", "b", "c"} {
		do(t, d, i, set(k), fine)
	}
	do(t, d, 3, set("a"), wait) // younger than all, but in no circle
	do(t, d, 0, set("b"), wait)
	do(t, d, 1, set("c"), wait)
	do(t, d, 2, set("a"), err(api.ErrDead))
	step(t, d, 1, fine)
	step(t, d, 0, wait)
	do(t, d, 1, commit, fine)
	step(t, d, 0, fine)
	step(t, d, 3, wait)
	do(t, d, 0, abort, fine)
	step(t, d, 3, fine)
}

func TestUpgradesInACircle(t *testing.T) { // P21.3: two who read one key both want to change it
	_, d := index(t, 2, 64, "a")
	do(t, d, 0, get("a"), api.Answer{Val: "v"})
	do(t, d, 1, get("a"), api.Answer{Val: "v"})
	do(t, d, 1, set("a"), wait)
	do(t, d, 0, set("a"), fine)
	step(t, d, 1, err(api.ErrDead))
}

func TestPhantoms(t *testing.T) { // P21.2
	_, d := index(t, 2, 64, "b", "d")
	do(t, d, 0, get("c"), err(api.ErrNone))
	do(t, d, 1, put("c"), wait)
	do(t, d, 0, get("c"), err(api.ErrNone))
	do(t, d, 0, commit, fine)
	step(t, d, 1, fine)
	do(t, d, 0, begin, fine)
	do(t, d, 0, scan("", 2), wait) // b, and then c
	do(t, d, 1, abort, fine)
	step(t, d, 0, api.Answer{Pairs: []api.Pair{{Key: "b", Val: "v"}, {Key: "d", Val: "v"}}})
	do(t, d, 1, begin, fine)
	do(t, d, 1, put("e"), fine) // not within what was read
	do(t, d, 1, put("a"), wait)
	do(t, d, 0, abort, fine)
	step(t, d, 1, fine)
}

func TestHeap(t *testing.T) { // P21.1, P21.2
	_, b := mounted(t, 30, 600)
	d := open(t, b, 2, 64)
	do(t, d, 0, begin, fine)
	do(t, d, 0, api.Op{Kind: api.OpMake, Num: api.Heap}, api.Answer{Num: 1})
	locked(t, d, hold(0, "", 1, api.X, 0), hold(1, "", 1, api.X, 0))
	do(t, d, 1, begin, fine)
	list, ins := api.Op{Kind: api.OpList, Store: 1}, api.Op{Kind: api.OpInsert, Store: 1, Val: "r"}
	do(t, d, 1, ins, wait)
	do(t, d, 0, commit, fine)
	step(t, d, 1, api.Answer{Num: 16})
	locked(t, d, hold(0, "", 2, api.IX, 0), hold(1, "", 2, api.IX, 0), hold(1, base.Item(16), 2, api.X, 0))
	do(t, d, 0, begin, fine)
	do(t, d, 0, list, wait)
	do(t, d, 1, commit, fine)
	step(t, d, 0, api.Answer{Pairs: []api.Pair{{Id: 16, Val: "r"}}})
	do(t, d, 1, begin, fine)
	do(t, d, 1, ins, wait)
	do(t, d, 0, list, api.Answer{Pairs: []api.Pair{{Id: 16, Val: "r"}}})
	do(t, d, 0, commit, fine)
	step(t, d, 1, api.Answer{Num: 17})
	do(t, d, 0, begin, fine)
	do(t, d, 0, api.Op{Kind: api.OpRead, Store: 1, Num: 18}, err(api.ErrNone)) // nobody may make it now
	do(t, d, 1, ins, api.Answer{Num: 19})
	do(t, d, 1, api.Op{Kind: api.OpDelete, Store: 1, Num: 16}, fine)
	do(t, d, 0, ins, api.Answer{Num: 20})
	do(t, d, 1, abort, fine)
	do(t, d, 0, list, api.Answer{Pairs: []api.Pair{{Id: 16, Val: "r"}, {Id: 20, Val: "r"}}})
}

func TestEscalation(t *testing.T) { // P21.1: with most items the whole store is asked for
	_, d := index(t, 2, 3, "a", "b", "c", "d", "e")
	for _, k := range []string{"a", "b", "c"} {
		do(t, d, 0, get(k), api.Answer{Val: "v"})
	}
	locked(t, d, hold(0, "", 2, api.IS, 0), hold(1, "", 2, api.IS, 0), hold(1, "a", 2, api.S, 0), hold(1, "b", 2, api.S, 0), hold(1, "c", 2, api.S, 0))
	do(t, d, 0, get("c"), api.Answer{Val: "v"})
	do(t, d, 0, get("d"), api.Answer{Val: "v"})
	locked(t, d, hold(0, "", 2, api.IS, 0), hold(1, "", 2, api.S, 0), hold(1, "a", 2, api.S, 0), hold(1, "b", 2, api.S, 0), hold(1, "c", 2, api.S, 0))
	do(t, d, 0, get("e"), api.Answer{Val: "v"})
	do(t, d, 0, set("a"), fine) // an item of which it has a lock
	locked(t, d, hold(0, "", 2, api.IX, 0), hold(1, "", 2, api.SIX, 0), hold(1, "a", 2, api.X, 0), hold(1, "b", 2, api.S, 0), hold(1, "c", 2, api.S, 0))
	do(t, d, 0, set("e"), fine)
	locked(t, d, hold(0, "", 2, api.IX, 0), hold(1, "", 2, api.X, 0), hold(1, "a", 2, api.X, 0), hold(1, "b", 2, api.S, 0), hold(1, "c", 2, api.S, 0))
	do(t, d, 0, set("b"), fine) // X of the store will do
	locked(t, d, hold(0, "", 2, api.IX, 0), hold(1, "", 2, api.X, 0), hold(1, "a", 2, api.X, 0), hold(1, "b", 2, api.S, 0), hold(1, "c", 2, api.S, 0))
	_, d = index(t, 1, 2, "a", "b", "c", "d", "e")
	do(t, d, 0, scan("", 4), api.Answer{Pairs: []api.Pair{{Key: "a", Val: "v"}, {Key: "b", Val: "v"}, {Key: "c", Val: "v"}, {Key: "d", Val: "v"}}})
	locked(t, d, hold(0, "", 2, api.IS, 0), hold(1, "", 2, api.S, 0), hold(1, "a", 2, api.S, 0), hold(1, "b", 2, api.S, 0))
	_, d = index(t, 2, 1, "a", "b")
	do(t, d, 0, set("a"), fine)
	do(t, d, 1, get("b"), api.Answer{Val: "v"})
	do(t, d, 0, set("b"), wait)
	do(t, d, 1, commit, fine)
	step(t, d, 0, fine)
}

func TestItemsOfTheWhole(t *testing.T) { // P21.1: S, SIX and X of a store pass over its items, where that is enough
	_, b := mounted(t, 30, 600)
	d := open(t, b, 1, 64)
	do(t, d, 0, begin, fine)
	do(t, d, 0, api.Op{Kind: api.OpMake, Num: api.Heap}, api.Answer{Num: 1})
	read := func(id int) api.Op { return api.Op{Kind: api.OpRead, Store: 1, Num: id} }
	for i := range 3 {
		do(t, d, 0, api.Op{Kind: api.OpInsert, Store: 1, Val: "r"}, api.Answer{Num: 16 + i})
	}
	locked(t, d, hold(0, "", 1, api.X, 0), hold(1, "", 1, api.X, 0)) // X of the store will do
	do(t, d, 0, commit, fine)
	do(t, d, 0, begin, fine)
	do(t, d, 0, api.Op{Kind: api.OpList, Store: 1}, api.Answer{Pairs: []api.Pair{{Id: 16, Val: "r"}, {Id: 17, Val: "r"}, {Id: 18, Val: "r"}}})
	do(t, d, 0, read(16), api.Answer{Val: "r"})
	locked(t, d, hold(0, "", 2, api.IS, 0), hold(1, "", 2, api.S, 0))
	do(t, d, 0, api.Op{Kind: api.OpUpdate, Store: 1, Num: 17, Val: "s"}, fine)
	do(t, d, 0, read(18), api.Answer{Val: "r"})
	do(t, d, 0, api.Op{Kind: api.OpInsert, Store: 1, Val: "t"}, api.Answer{Num: 19})
	locked(t, d, hold(0, "", 2, api.IX, 0), hold(1, "", 2, api.SIX, 0), hold(1, base.Item(17), 2, api.X, 0), hold(1, base.Item(19), 2, api.X, 0))
}

func TestItemsOfOtherStores(t *testing.T) { // P21.1: they don't count
	_, b := mounted(t, 30, 600)
	d := open(t, b, 1, 2)
	do(t, d, 0, begin, fine)
	do(t, d, 0, api.Op{Kind: api.OpMake, Num: api.Index}, api.Answer{Num: 1})
	do(t, d, 0, api.Op{Kind: api.OpMake, Num: api.Object}, api.Answer{Num: 2})
	do(t, d, 0, commit, fine)
	do(t, d, 0, begin, fine)
	do(t, d, 0, put("a"), fine) // a, and the end
	do(t, d, 0, api.Op{Kind: api.OpNew, Store: 2, Num: 5}, fine)
	do(t, d, 0, api.Op{Kind: api.OpNew, Store: 2, Num: 6}, fine)
	locked(t, d, hold(0, "", 2, api.IX, 0), hold(1, "", 2, api.IX, 0), hold(1, "a", 2, api.X, 0), hold(1, plan.End, 2, api.X, 0),
		hold(2, "", 2, api.IX, 0), hold(2, base.Item(5), 2, api.X, 0), hold(2, base.Item(6), 2, api.X, 0))
	do(t, d, 0, api.Op{Kind: api.OpNew, Store: 2, Num: 7}, fine)
	if m := d.Locks()[4]; m != hold(2, "", 2, api.X, 0) || len(d.Locks()) != 7 {
		t.Fatal(d.Locks())
	}
}

func TestStrict(t *testing.T) { // P21.5
	_, d := index(t, 2, 64, "a", "b")
	do(t, d, 0, api.Op{Kind: api.OpSave}, api.Answer{})
	do(t, d, 0, set("a"), fine)
	do(t, d, 0, put("a"), err(api.ErrThere))
	do(t, d, 0, put("c"), fine)
	n := len(d.Locks())
	do(t, d, 0, api.Op{Kind: api.OpBack}, fine)
	if len(d.Locks()) != n {
		t.Fatal("going back releases nothing")
	}
	do(t, d, 1, set("a"), wait)
	do(t, d, 0, abort, fine)
	step(t, d, 1, fine)
	do(t, d, 1, abort, fine)
	locked(t, d)
}

func TestKeptGhosts(t *testing.T) { // P21.2: what somebody has locked stays
	_, d := index(t, 3, 64, "b", "d", "f", "h", "j", "l")
	do(t, d, 0, cut("d"), fine)
	do(t, d, 0, commit, fine)
	do(t, d, 1, get("d"), err(api.ErrNone)) // the ghost is locked
	locked(t, d, hold(0, "", 3, api.IS, 0), hold(1, "", 3, api.IS, 0), hold(1, "d", 3, api.S, 0))
	for _, k := range []string{"x", "y", "z", "e", "i"} {
		do(t, d, 2, put(k), fine)
	}
	do(t, d, 2, put("d"), wait)
	do(t, d, 1, get("d"), err(api.ErrNone))
	do(t, d, 1, commit, fine)
	step(t, d, 2, fine)
	do(t, d, 2, commit, fine)
	do(t, d, 0, begin, fine)
	do(t, d, 2, begin, fine)
	do(t, d, 0, scan("zz", 1), api.Answer{})
	do(t, d, 2, put("zzz"), wait)
	if l := d.Locks(); !slices.Contains(l, hold(1, plan.End, 5, api.S, 0)) {
		t.Fatal(l)
	}
}

func TestDown(t *testing.T) { // P21.1: behind an error nothing is released
	dev, b := mounted(t, 16, 256)
	d := open(t, b, 2, 64)
	do(t, d, 0, begin, fine)
	do(t, d, 0, api.Op{Kind: api.OpMake, Num: api.Index}, api.Answer{Num: 1})
	l := d.Locks()
	dev.Fuel(0)
	do(t, d, 0, commit, err(api.ErrDown))
	if !d.Open(0) || d.Busy(0) || !slices.Equal(l, d.Locks()) {
		t.Fatal(d.Locks())
	}
	do(t, d, 1, begin, err(api.ErrDown))
	if d.Open(1) || d.Busy(1) {
		t.Fatal()
	}
}

func TestManyTransactions(t *testing.T) { // P21.1: errors of base
	_, b := mounted(t, 16, 256)
	d := open(t, b, 8, 64)
	for i := range 8 {
		do(t, d, i, begin, fine)
	}
	do(t, d, 7, commit, fine)
	do(t, d, 7, begin, fine)
	do(t, d, 7, api.Op{Kind: api.OpInsert, Store: 3, Val: strings.Repeat("x", 33)}, err(api.ErrLong))
	if !d.Open(7) {
		t.Fatal()
	}
}

// noCircle: does nobody wait for himself?
func noCircle(t *testing.T, d *desk.Desk, slots int) {
	t.Helper()
	l, e := waits.Digests(slots, d.Arcs())
	if e != api.OK {
		t.Fatal(e, d.Arcs())
	}
	for i, x := range l {
		if x>>i&1 == 1 {
			t.Fatal("waits for himself", i, d.Arcs())
		}
	}
}
