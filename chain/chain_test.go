package chain_test

import (
	"math"
	"reflect"
	"slices"
	"strings"
	"testing"

	"jetty/api"
	"jetty/chain"
	"jetty/disk"
	"jetty/logrec"
	"jetty/pool"
	"jetty/wal"
)

// bench: a chain over a log of some sectors and 20 pages.
type bench struct {
	t *testing.T
	n int
	d *disk.Disk
	l *wal.Log
	p *pool.Pool
	c *chain.Chain
}

func lay(t *testing.T, n int) *bench {
	t.Helper()
	d, e := disk.New(n + 80)
	if e != api.OK {
		t.Fatal(e)
	}
	l, e := wal.Create(d, 0, n)
	if e != api.OK {
		t.Fatal(e)
	}
	p, e := pool.New(d, l, n, 20, 8)
	if e != api.OK {
		t.Fatal(e)
	}
	c, e := chain.New(l, p, 1)
	if c == nil || e != api.OK {
		t.Fatal(e)
	}
	return &bench{t, n, d, l, p, c}
}

// log: all records that the log holds, from its start on.
func (b *bench) log() []api.Rec {
	b.t.Helper()
	start, end, _ := b.l.Span()
	if e := b.l.Flush(end); e != api.OK {
		b.t.Fatal(e)
	}
	_, es, e := wal.Open(b.d, 0, b.n, start)
	if e != api.OK {
		b.t.Fatal(e)
	}
	var l []api.Rec
	for _, x := range es {
		r, e := logrec.Decode(x.Bytes)
		if e != api.OK {
			b.t.Fatal(e)
		}
		l = append(l, r)
	}
	return l
}

func (b *bench) records(want ...api.Rec) {
	b.t.Helper()
	got := b.log()
	if len(got) != len(want) {
		b.t.Fatalf("%d records, not %d: %+v", len(got), len(want), got)
	}
	for i := range got {
		if !reflect.DeepEqual(got[i], want[i]) {
			b.t.Fatalf("record %d: %+v, not %+v", i, got[i], want[i])
		}
	}
}

func (b *bench) begin(want int) {
	b.t.Helper()
	if x, e := b.c.Begin(); x != want || e != api.OK {
		b.t.Fatal(x, e)
	}
}

func (b *bench) ok(e api.Errno) {
	b.t.Helper()
	if e != api.OK {
		b.t.Fatal(e)
	}
}

func (b *bench) save(x, want int) {
	b.t.Helper()
	if at, e := b.c.Save(x); at != want || e != api.OK {
		b.t.Fatal(at, e)
	}
}

func (b *bench) reserved(want complex128) {
	b.t.Helper()
	if r := b.c.Reserved(); r != want {
		b.t.Fatal(r, want)
	}
}

func (b *bench) lives(want ...api.Alive) {
	b.t.Helper()
	if l := b.c.Lives(); !slices.Equal(l, want) {
		b.t.Fatal(l, want)
	}
}

// Restore: the bench is a Restorer itself: the cell is as before.
func (b *bench) Restore(u api.Undo) ([]api.Image, api.Errno) {
	p, e := b.p.Get(u.Page)
	if e != api.OK {
		return nil, e
	}
	p.Cells[u.Slot] = u.Before
	return []api.Image{{Id: u.Page, Page: p}}, api.OK
}

// broken is a Restorer that answers what it is told.
type broken struct {
	l []api.Image
	e api.Errno
}

func (o broken) Restore(api.Undo) ([]api.Image, api.Errno) { return o.l, o.e }

// set: a cell of a page becomes another one, and how to take it back.
func (b *bench) set(id, slot int, data string) (api.Undo, []api.Image) {
	p, e := b.p.Get(id)
	if e != api.OK {
		b.t.Fatal(e)
	}
	u := api.Undo{Kind: api.UndoCell, Page: id, Slot: slot, Before: p.Cells[slot]}
	p.Cells[slot] = api.Cell{State: api.Live, Data: data}
	return u, []api.Image{{Id: id, Page: p}}
}

func (b *bench) size(r api.Rec) int {
	s, e := logrec.Encode(r)
	if e != api.OK {
		b.t.Fatal(e)
	}
	return len(s) + 2
}

func TestExample(t *testing.T) { // P18.1
	b := lay(t, 128)
	b.begin(1)
	b.reserved(128)
	b.lives(api.Alive{Xct: 1})
	b.save(1, 0)
	u, m := b.set(3, 2, "a")
	b.ok(b.c.Change(1, u, m, 0))
	b.reserved(448 + 1i)
	b.save(1, 54)
	b.lives(api.Alive{Xct: 1, First: 54, Last: 54})
	update := api.Rec{Kind: api.RecUpdate, Xct: 1, Undo: u, Images: m}
	b.records(update)
	if p, _ := b.p.Get(3); p != m[0].Page || !slices.Equal(b.p.Dirty(), []int{3}) {
		t.Fatal(p)
	}
	b.ok(b.c.Back(1, 0, b))
	clr := api.Rec{Kind: api.RecClr, Xct: 1, Prev: 54, Images: []api.Image{{Id: 3}}}
	b.records(update, clr)
	if p, _ := b.p.Get(3); p != (api.Page{}) {
		t.Fatal(p)
	}
	at := 54 + b.size(update)
	b.save(1, at)
	b.reserved(128)
	b.ok(b.c.Back(1, 0, b))
	b.records(update, clr)
	b.ok(b.c.Commit(1))
	if _, end, firm := b.l.Span(); end != firm {
		t.Fatal("the commit isn't firm")
	}
	b.records(update, clr, api.Rec{Kind: api.RecCommit, Xct: 1, Prev: at})
	b.lives()
	b.reserved(128)
	b.c.Free(1)
	b.reserved(0)
	if e := b.c.Change(9, u, m, 0); e != api.ErrXct {
		t.Fatal(e)
	}
	for i := range 8 {
		b.begin(2 + i)
	}
	if x, e := b.c.Begin(); x != 0 || e != api.ErrMany || b.c.Fresh() != 10 {
		t.Fatal(x, e)
	}
}

func TestConstants(t *testing.T) { // P18.1
	if chain.ClrBytes != 320 || chain.EndBytes != 128 || chain.CheckBytes != 384 || chain.TidyBytes != 640 {
		t.Fatal()
	}
}

func TestWrong(t *testing.T) { // P18.1
	b := lay(t, 128)
	for _, fresh := range []int{0, -1, math.MinInt} {
		if c, e := chain.New(b.l, b.p, fresh); c != nil || e != api.ErrArg {
			t.Fatal(fresh, e)
		}
	}
	if c, e := chain.New(nil, b.p, 1); c != nil || e != api.ErrArg {
		t.Fatal(e)
	}
	if c, e := chain.New(b.l, nil, 1); c != nil || e != api.ErrArg {
		t.Fatal(e)
	}
	u, m := b.set(3, 2, "a")
	b.begin(1)
	for _, x := range []int{math.MinInt, -1, 0, 2, math.MaxInt} {
		if b.c.Change(x, u, m, -1) != api.ErrXct || b.c.Back(x, 0, b) != api.ErrXct || b.c.Commit(x) != api.ErrXct || b.c.Abort(x, b) != api.ErrXct {
			t.Fatal(x)
		}
		if at, e := b.c.Save(x); at != 0 || e != api.ErrXct {
			t.Fatal(x, e)
		}
		b.c.Free(x)
	}
	b.c.Free(1)
	b.reserved(128)
	for _, c := range []struct {
		u    api.Undo
		l    []api.Image
		more int
	}{
		{api.Undo{}, m, 0}, {api.Undo{Kind: 4}, m, 0}, {api.Undo{Kind: -1}, m, 0}, {u, []api.Image{{Id: 1024}}, 0}, {u, []api.Image{{Id: -1}}, 0},
		{u, []api.Image{{Page: api.Page{Kind: 5}}}, 0}, {u, make([]api.Image, 25), 0}, {u, m, -1}, {u, m, 1<<20 + 1}, {u, m, math.MaxInt}, {u, m, math.MinInt},
	} {
		if e := b.c.Change(1, c.u, c.l, c.more); e != api.ErrArg {
			t.Fatal(c, e)
		}
		if c.u == u && c.more == 0 {
			if e := b.c.System(c.l); e != api.ErrArg {
				t.Fatal(c, e)
			}
		}
	}
	b.records()
	b.reserved(128)
	b.lives(api.Alive{Xct: 1})
	if len(b.p.Dirty()) != 0 {
		t.Fatal(b.p.Dirty())
	}
	if e := b.c.Change(1, u, m, 1<<20); e != api.ErrFull {
		t.Fatal(e)
	}
	b.ok(b.c.Change(1, u, nil, 640))
	b.reserved(128 + 320 + 640 + 1i)
	if e := b.c.Back(1, 0, nil); e == api.OK {
		t.Fatal("nobody to ask")
	}
	if e := b.c.Abort(1, broken{nil, api.ErrNone}); e != api.ErrNone {
		t.Fatal(e)
	}
	if len(b.log()) != 1 || len(b.c.Lives()) != 1 {
		t.Fatal(b.log())
	}
	b.ok(b.c.Back(1, 54, b))
	b.ok(b.c.Back(1, math.MaxInt, b))
	b.ok(b.c.Abort(1, b))
	b.c.Free(1)
	b.reserved(0)
	var none *chain.Chain
	if x, e := none.Begin(); x != 0 || e != api.ErrArg {
		t.Fatal(e)
	}
	if at, e := none.Save(1); at != 0 || e != api.ErrArg {
		t.Fatal(e)
	}
	if a, o, e := none.Check(); a != 0 || o != 0 || e != api.ErrArg {
		t.Fatal(e)
	}
	none.Free(1)
	if none.Change(1, u, m, 0) != api.ErrArg || none.System(m) != api.ErrArg || none.Back(1, 0, b) != api.ErrArg || none.Commit(1) != api.ErrArg ||
		none.Abort(1, b) != api.ErrArg || none.Cut(54) != api.ErrArg || none.Rise(nil) != api.ErrArg || none.Lives() != nil || none.Fresh() != 0 || none.Reserved() != 0 {
		t.Fatal()
	}
}

func TestBackInParts(t *testing.T) { // P18.1
	b := lay(t, 256)
	b.begin(1)
	b.begin(2)
	var saves []int
	var want []api.Rec
	for i := range 4 {
		at, _ := b.c.Save(1)
		saves = append(saves, at)
		u, m := b.set(i%2, i, string([]byte{byte('a' + i)}))
		b.ok(b.c.Change(1, u, m, 10))
		want = append(want, api.Rec{Kind: api.RecUpdate, Xct: 1, Prev: at, Undo: u, Images: m})
	}
	b.reserved(256 + 4*330 + 4i)
	u2, m2 := b.set(9, 0, "other")
	b.ok(b.c.Change(2, u2, m2, 0))
	want = append(want, api.Rec{Kind: api.RecUpdate, Xct: 2, Undo: u2, Images: m2})
	last, _ := b.c.Save(1)
	clr := func(i int, u api.Undo) {
		l, _ := b.Restore(u)
		want = append(want, api.Rec{Kind: api.RecClr, Xct: 1, Prev: last, Next: want[i].Prev, Images: l})
	}
	clr(3, want[3].Undo)
	b.ok(b.c.Back(1, saves[3], b))
	b.records(want...)
	last, _ = b.c.Save(1)
	clr(2, want[2].Undo)
	b.ok(b.c.Back(1, saves[2], b))
	b.records(want...)
	b.ok(b.c.Back(1, saves[2], b)) // nothing more
	b.records(want...)
	b.reserved(256 + 2*330 + 2*10 + 320 + 3i)
	last, _ = b.c.Save(1)
	u, m := b.set(5, 5, "new")
	b.ok(b.c.Change(1, u, m, 0))
	want = append(want, api.Rec{Kind: api.RecUpdate, Xct: 1, Prev: last, Undo: u, Images: m})
	last, _ = b.c.Save(1)
	clr(len(want)-1, u)
	b.ok(b.c.Back(1, saves[1], b))
	got := b.log()
	want = want[:len(want)-1]
	if len(got) != len(want)+2 { // the new one, and the second
		t.Fatal(len(got), len(want))
	}
	for i, r := range got[len(want):] {
		if r.Kind != api.RecClr || r.Xct != 1 || r.Prev != last || r.Next != []int{want[len(want)-1].Prev, saves[1]}[i] {
			t.Fatal(i, r)
		}
		last = last + b.size(got[len(want)-1+i])
	}
	b.ok(b.c.Abort(1, b))
	got = b.log()
	end := got[len(got)-1]
	if end.Kind != api.RecEnd || end.Xct != 1 || got[len(got)-2].Kind != api.RecClr || got[len(got)-2].Next != 0 || len(end.Images) != 0 || end.Next != 0 {
		t.Fatal(end)
	}
	b.lives(api.Alive{Xct: 2, First: b.c.Lives()[0].First, Last: b.c.Lives()[0].First})
	for id := range 6 {
		if p, _ := b.p.Get(id); p != (api.Page{}) {
			t.Fatal(id, p)
		}
	}
	if p, _ := b.p.Get(9); p != m2[0].Page {
		t.Fatal("the other one's page")
	}
	b.reserved(128 + 4*10 + 128 + 320 + 1i)
	b.c.Free(1)
	b.reserved(128 + 320 + 1i)
}

func TestWithoutRecords(t *testing.T) { // P18.1
	b := lay(t, 128)
	b.begin(1)
	b.begin(2)
	b.begin(3)
	b.ok(b.c.Commit(1))
	b.ok(b.c.Abort(2, b))
	b.ok(b.c.Back(3, 0, b))
	b.records()
	b.lives(api.Alive{Xct: 3})
	b.reserved(3 * 128)
	b.c.Free(1)
	b.c.Free(2)
	b.c.Free(0)
	b.reserved(128)
	if e := b.c.Commit(1); e != api.ErrXct {
		t.Fatal(e)
	}
	l := b.c.Lives()
	l[0].Xct = 99
	b.lives(api.Alive{Xct: 3})
}

func TestSystem(t *testing.T) { // P18.1
	b := lay(t, 128)
	_, m := b.set(4, 1, "s")
	_, m2 := b.set(6, 1, "t")
	m = append(m, m2...)
	b.ok(b.c.System(m))
	b.ok(b.c.System(nil))
	b.records(api.Rec{Kind: api.RecSystem, Images: m}, api.Rec{Kind: api.RecSystem})
	if p, _ := b.p.Get(6); p != m2[0].Page {
		t.Fatal(p)
	}
	b.reserved(0)
	for range 100 {
		if e := b.c.System(m); e == api.ErrFull {
			return
		}
	}
	t.Fatal("a log that is never full")
}

func TestStamps(t *testing.T) { // P18.1: a page's stamp is its record's place
	b := lay(t, 128)
	b.begin(1)
	u, m := b.set(4, 1, "s")
	b.ok(b.c.Change(1, u, m, 0))
	u, m = b.set(4, 2, "t")
	b.ok(b.c.Change(1, u, m, 0))
	at, _ := b.c.Save(1)
	b.ok(b.p.Flush())
	for i := range 4 {
		if s, _ := b.d.Read(128 + 16 + i); s[56] != byte(at) || s[57] != byte(at>>8) {
			t.Fatal(s)
		}
	}
}

func TestCheck(t *testing.T) { // P18.1
	b := lay(t, 128)
	check := func(at, oldest int) {
		t.Helper()
		if a, o, e := b.c.Check(); a != at || o != oldest || e != api.OK || len(b.p.Dirty()) != 0 {
			t.Fatal(a, o, e)
		}
		if _, end, firm := b.l.Span(); end != firm {
			t.Fatal("not flushed")
		}
	}
	check(54, 54)
	b.begin(1)
	b.begin(2)
	b.begin(3)
	check(54, 54)
	_, m := b.set(2, 2, "sys")
	b.ok(b.c.System(m))
	_, end, _ := b.l.Span()
	check(end, end) // nobody who lives has a record
	u, m := b.set(3, 2, "a")
	b.ok(b.c.Change(3, u, m, 0))
	first := end
	u, m = b.set(4, 2, "b")
	b.ok(b.c.Change(1, u, m, 0))
	b.ok(b.c.Change(3, u, m, 0))
	one, _ := b.c.Save(1)
	three, _ := b.c.Save(3)
	_, end, _ = b.l.Span()
	b.reserved(3*128 + 3*320 + 3i)
	check(end, first)
	b.reserved(3*128 + 3*320 + 3i)
	l := b.log()
	want := api.Rec{Kind: api.RecCheck, Fresh: 4, Lives: []api.Alive{{Xct: 1, First: one, Last: one}, {Xct: 2}, {Xct: 3, First: first, Last: three}}}
	if !reflect.DeepEqual(l[len(l)-1], want) || len(l) != 5 {
		t.Fatal(l[len(l)-1])
	}
	b.ok(b.c.Cut(first))
	if e := b.c.Cut(first + 1); e != api.ErrArg {
		t.Fatal(e)
	}
	b.ok(b.c.Commit(3))
	_, end, _ = b.l.Span()
	check(end, one)
	b.ok(b.c.Cut(one))
	b.ok(b.c.Abort(1, b))
	b.ok(b.c.Commit(2))
	_, end, _ = b.l.Span()
	check(end, end)
	b.ok(b.c.Cut(end))
	b.records()
	b.d.Fuel(0)
	if a, o, e := b.c.Check(); a != 0 || o != 0 || e != api.ErrDown {
		t.Fatal(a, o, e)
	}
}

func TestCheckFull(t *testing.T) { // P18.1: exactly enough room, and one byte less
	for _, less := range []int{0, 1} {
		b := lay(t, 128)
		b.begin(1)
		u, m := b.set(3, 2, "a")
		b.ok(b.c.Change(1, u, m, 0))
		b.l.Append(strings.Repeat("x", b.l.Room()-2-384-128-320+less))
		_, end, _ := b.l.Span()
		a, o, e := b.c.Check()
		if less == 0 && (a != end || o != 54 || e != api.OK) || less == 1 && (a != 0 || o != 0 || e != api.ErrFull) {
			t.Fatal(less, a, o, e)
		}
		if less == 1 && len(b.p.Dirty()) != 1 {
			t.Fatal("a refusal has flushed")
		}
	}
}

func TestRoom(t *testing.T) { // P18.1: exactly enough room, and one byte less
	for _, less := range []int{0, 1} {
		b := lay(t, 128)
		b.begin(1)
		b.l.Append(strings.Repeat("x", b.l.Room()-2-2*128+less))
		x, e := b.c.Begin()
		if less == 0 && (x != 2 || e != api.OK) || less == 1 && (x != 0 || e != api.ErrFull) {
			t.Fatal(less, x, e)
		}
		if b.c.Fresh() != 3-less {
			t.Fatal(b.c.Fresh())
		}
		b = lay(t, 128)
		b.begin(1)
		u, m := b.set(3, 2, "a")
		size := b.size(api.Rec{Kind: api.RecUpdate, Xct: 1, Undo: u, Images: m})
		b.l.Append(strings.Repeat("x", b.l.Room()-2-128-size-320-77+less))
		e = b.c.Change(1, u, m, 77)
		if less == 0 && e != api.OK || less == 1 && e != api.ErrFull {
			t.Fatal(less, e)
		}
		if less == 1 {
			b.reserved(128)
			if p, _ := b.p.Get(3); p != (api.Page{}) {
				t.Fatal("a refusal has put a page")
			}
		}
		b.ok(b.c.Back(1, 0, b))
		b.ok(b.c.Commit(1))
	}
	b := lay(t, 128) // less room than the record needs at all
	b.begin(1)
	b.l.Append(strings.Repeat("x", b.l.Room()-2-128))
	u, m := b.set(3, 2, "a")
	if e := b.c.Change(1, u, m, 0); e != api.ErrFull {
		t.Fatal(e)
	}
	b.ok(b.c.Abort(1, b))
}

func TestRise(t *testing.T) { // P18.1
	b := lay(t, 128)
	b.begin(1)
	if e := b.c.Rise(nil); e != api.ErrArg {
		t.Fatal(e)
	}
	u, m := b.set(3, 2, "a")
	b.ok(b.c.Change(1, u, m, 0))
	b.ok(b.c.Back(1, 0, b))
	u, m = b.set(3, 2, "b")
	b.ok(b.c.Change(1, u, m, 0))
	one := b.c.Lives()[0]
	c, e := chain.New(b.l, b.p, 3)
	if e != api.OK {
		t.Fatal(e)
	}
	if e := c.Rise(make([]api.Alive, 9)); e != api.ErrArg {
		t.Fatal(e)
	}
	lives := []api.Alive{{Xct: 7}, one, {Xct: 4}}
	b.ok(c.Rise(lives))
	if lives[0].Xct != 7 || lives[2].Xct != 4 {
		t.Fatal("changed")
	}
	lives[1].Last = 99
	b.c = c
	b.lives(one, api.Alive{Xct: 4}, api.Alive{Xct: 7})
	b.reserved(3 * 128)
	if c.Fresh() != 8 {
		t.Fatal(c.Fresh())
	}
	n := len(b.log())
	b.ok(c.Abort(1, b))
	l := b.log()
	if len(l) != n+2 || l[n].Kind != api.RecClr || l[n].Prev != one.Last || l[n+1].Kind != api.RecEnd {
		t.Fatal(l)
	}
	if p, _ := b.p.Get(3); p != (api.Page{}) {
		t.Fatal(p)
	}
	b.reserved(3 * 128)
	b.begin(8)
	c, _ = chain.New(b.l, b.p, 50)
	b.ok(c.Rise([]api.Alive{{Xct: 49}, {Xct: 2}}))
	if c.Fresh() != 50 {
		t.Fatal(c.Fresh())
	}
	c, _ = chain.New(b.l, b.p, 50)
	b.ok(c.Rise([]api.Alive{{Xct: 50}}))
	if c.Fresh() != 51 {
		t.Fatal(c.Fresh())
	}
	b.l.Append(strings.Repeat("x", b.l.Room()-2-200)) // room for one alone
	c, _ = chain.New(b.l, b.p, 1)
	b.ok(c.Rise([]api.Alive{{Xct: 5}, {Xct: 6}}))
	if c.Reserved() != 128 || len(c.Lives()) != 2 {
		t.Fatal(c.Reserved())
	}
	c, _ = chain.New(b.l, b.p, 1)
	b.ok(c.Rise(nil))
	if c.Fresh() != 1 || c.Reserved() != 0 {
		t.Fatal()
	}
}

func TestPlacesBelowNought(t *testing.T) { // P18.1: as long as the place is greater than to, and than 0
	for _, to := range []int{math.MinInt, -1, 0, 1, 53} {
		b := lay(t, 128)
		b.begin(1)
		b.ok(b.c.Back(1, to, b))
		for i := range 3 {
			u, m := b.set(3, i, "a")
			b.ok(b.c.Change(1, u, m, 0))
		}
		b.ok(b.c.Back(1, to, b))
		b.reserved(128)
		b.ok(b.c.Back(1, to, b))
		if l := b.log(); len(l) != 6 {
			t.Fatal(to, len(l))
		}
	}
}

func TestCheckWithoutRecords(t *testing.T) { // P18.1: nothing is written, so no room is needed
	b := lay(t, 128)
	b.begin(1)
	b.l.Append(strings.Repeat("x", b.l.Room()-2-128))
	_, end, _ := b.l.Span()
	if a, o, e := b.c.Check(); a != end || o != end || e != api.OK {
		t.Fatal(a, o, e)
	}
	b.ok(b.c.Cut(end))
	b.begin(2)
}

func TestCheckDown(t *testing.T) { // P18.1: beside an error there is nothing
	done := false
	for fuel := 0; !done; fuel++ {
		b := lay(t, 128)
		b.begin(1)
		u, m := b.set(3, 2, "a")
		b.ok(b.c.Change(1, u, m, 0))
		b.d.Fuel(fuel)
		a, o, e := b.c.Check()
		done = e == api.OK
		if !done && (a != 0 || o != 0 || e != api.ErrDown) {
			t.Fatal(fuel, a, o, e)
		}
	}
	for _, way := range []int{0, 1} {
		b := lay(t, 128)
		b.begin(1)
		u, m := b.set(3, 2, "a")
		b.ok(b.c.Change(1, u, m, 0))
		b.d.Fuel(0)
		switch way {
		case 0:
			if e := b.c.Commit(1); e != api.ErrDown {
				t.Fatal(e)
			}
		case 1: // pages beyond what the pool keeps
			e := api.OK
			for id := 0; id < 20 && e == api.OK; id++ {
				e = b.c.System([]api.Image{{Id: id}})
			}
			if e != api.ErrDown {
				t.Fatal(e)
			}
		}
	}
}

func TestRiseOfEight(t *testing.T) { // P18.1: as many as may live, and the number 0
	b := lay(t, 128)
	var l []api.Alive
	for x := range 8 {
		l = append(l, api.Alive{Xct: x})
	}
	b.ok(b.c.Rise(l))
	b.lives(l...)
	b.reserved(8 * 128)
	if x, e := b.c.Begin(); x != 0 || e != api.ErrMany {
		t.Fatal(x, e)
	}
	b.ok(b.c.Commit(0))
	b.c.Free(0)
	b.reserved(8 * 128)
	b.ok(b.c.Commit(3))
	b.c.Free(3)
	b.reserved(7 * 128)
	b.begin(8)
}

func TestRecordsThatAreNone(t *testing.T) { // rule 1: every call ends
	b := lay(t, 128)
	b.l.Append("no record at all")
	s, _ := logrec.Encode(api.Rec{Kind: api.RecClr, Xct: 1, Next: 72})
	at, _ := b.l.Append(s) // it names itself
	s, _ = logrec.Encode(api.Rec{Kind: api.RecCheck})
	check, _ := b.l.Append(s)
	if at != 72 {
		t.Fatal(at)
	}
	for _, last := range []int{54, 72, check, 60, 1 << 39} {
		c, _ := chain.New(b.l, b.p, 1)
		b.ok(c.Rise([]api.Alive{{Xct: 1, First: 54, Last: last}}))
		c.Abort(1, b)
	}
}

func TestBackIsNeverRefused(t *testing.T) { // P18.2
	seed := uint64(59)
	next := func(n int) int {
		seed = seed*6364136223846793005 + 1442695040888963407
		return int(seed>>33) % n
	}
	full := 0
	for round := range 150 {
		b := lay(t, 128+next(40))
		tidy := map[int]int{}
		for k := range 400 {
			x := 0
			if l := b.c.Lives(); len(l) > 0 {
				x = l[next(len(l))].Xct
			}
			switch next(12) {
			case 0, 1:
				y, e := b.c.Begin()
				if e == api.OK {
					tidy[y] = 0
				} else if e == api.ErrFull {
					full++
				} else if e != api.ErrMany {
					t.Fatal(e)
				}
			case 2:
				if x > 0 && next(3) == 0 {
					b.ok(b.c.Commit(x))
					for range tidy[x] {
						b.ok(b.c.System(twoImages(b)))
					}
					b.c.Free(x)
				}
			case 3:
				if x > 0 && next(2) == 0 {
					b.ok(b.c.Abort(x, b))
					for range tidy[x] {
						b.ok(b.c.System(twoImages(b)))
					}
					b.c.Free(x)
				}
			case 4:
				if x > 0 {
					at, e := b.c.Save(x)
					b.ok(e)
					b.ok(b.c.Back(x, next(at+1), b))
				}
			case 5:
				_, oldest, e := b.c.Check()
				if e == api.OK {
					b.ok(b.c.Cut(oldest))
				} else if e != api.ErrFull {
					t.Fatal(round, k, e)
				}
			default:
				if x == 0 {
					break
				}
				more := 0
				if next(5) == 0 {
					more = chain.TidyBytes
				}
				u, m := b.set(next(20), next(6), strings.Repeat("d", 1+next(34)))
				u.Key = "12345678"
				e := b.c.Change(x, u, m, more)
				if e == api.ErrFull {
					full++
				} else if e != api.OK {
					t.Fatal(round, k, e)
				} else if more > 0 {
					tidy[x]++
				}
			}
			room := float64(b.l.Room())
			if real(b.c.Reserved()) > room {
				t.Fatal(round, k, "less room than is reserved")
			}
		}
		for _, l := range b.c.Lives() {
			b.ok(b.c.Abort(l.Xct, b))
			b.c.Free(l.Xct)
		}
		b.reserved(0)
	}
	if full < 100 {
		t.Fatal("the log was hardly ever full", full)
	}
}

// twoImages: as many pages as a store that is let go changes.
func twoImages(b *bench) []api.Image {
	p, _ := b.p.Get(0)
	q, _ := b.p.Get(1)
	return []api.Image{{Id: 0, Page: p}, {Id: 1, Page: q}}
}

func TestAllTakenBack(t *testing.T) { // P18.1, P18.2: what aborts leaves the pages as they were
	seed := uint64(61)
	next := func(n int) int {
		seed = seed*6364136223846793005 + 1442695040888963407
		return int(seed>>33) % n
	}
	for range 60 {
		b := lay(t, 1000)
		var model [20]api.Page
		for x := 1; x <= 8; x++ {
			b.begin(x)
			saved := model
			at := 0
			mid := model
			for k := range 1 + next(12) {
				if k == 4 {
					at, _ = b.c.Save(x)
					mid = model
				}
				u, m := b.set(next(20), next(6), string([]byte{byte(k), byte(x)}))
				b.ok(b.c.Change(x, u, m, 0))
				model[m[0].Id] = m[0].Page
			}
			switch next(3) {
			case 0:
				b.ok(b.c.Abort(x, b))
				model = saved
			case 1:
				if at > 0 {
					b.ok(b.c.Back(x, at, b))
					model = mid
				}
				b.ok(b.c.Commit(x))
			case 2:
				b.ok(b.c.Commit(x))
			}
			for id := range model {
				if p, e := b.p.Get(id); p != model[id] || e != api.OK {
					t.Fatal(x, id)
				}
			}
		}
	}
}
