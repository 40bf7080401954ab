package logrec_test

import (
	"math"
	"reflect"
	"strings"
	"testing"

	"jetty/api"
	"jetty/logrec"
	"jetty/page"
)

func num(n, width int) string {
	b := make([]byte, width)
	for i := range b {
		b[i] = byte(n >> (8 * i))
	}
	return string(b)
}

func text(s string) string { return string([]byte{byte(len(s))}) + s }

// wantBytes: a record's bytes by the words.
func wantBytes(r api.Rec) string {
	s := num(r.Kind, 1) + num(r.Xct, 4) + num(r.Prev, 8) + num(r.Next, 8) + num(r.Fresh, 4)
	u := r.Undo
	s += num(u.Kind, 1) + num(u.Store, 1) + num(u.Page, 4) + num(u.Slot, 1) + text(u.Key) + num(u.Before.State, 1) + text(u.Before.Data)
	s += num(len(r.Images), 1)
	for _, m := range r.Images {
		body, _ := page.Encode(m.Page)
		s += num(m.Id, 4) + body
	}
	s += num(len(r.Lives), 1)
	for _, l := range r.Lives {
		s += num(l.Xct, 4) + num(l.First, 8) + num(l.Last, 8)
	}
	return s
}

func somePage(i int) api.Page {
	p := api.Page{Kind: i % 5, Level: i, Store: 300 + i, Next: 1000 - i}
	p.Cells[i%6] = api.Cell{State: 1 + i%2, Data: strings.Repeat("d", i%35)}
	return p
}

func images(n int) []api.Image {
	var l []api.Image
	for i := range n {
		l = append(l, api.Image{Id: 1023 - i, Page: somePage(i)})
	}
	return l
}

func lives(n int) []api.Alive {
	var l []api.Alive
	for i := range n {
		l = append(l, api.Alive{Xct: 7 - i, First: 54 + i, Last: 1<<40 - i})
	}
	return l
}

// with: a commit that is changed somehow.
func with(f func(*api.Rec)) api.Rec {
	r := api.Rec{Kind: api.RecCommit, Xct: 2, Prev: 54}
	f(&r)
	return r
}

type setting struct {
	name        string
	set         func(*api.Rec, int)
	least, most int
}

func settings() []setting {
	return []setting{
		{"Kind", func(r *api.Rec, n int) { r.Kind = n }, 1, 6},
		{"Xct", func(r *api.Rec, n int) { r.Xct = n }, 0, 1<<31 - 1},
		{"Fresh", func(r *api.Rec, n int) { r.Fresh = n }, 0, 1<<31 - 1},
		{"Prev", func(r *api.Rec, n int) { r.Prev = n }, 0, 1 << 40},
		{"Next", func(r *api.Rec, n int) { r.Next = n }, 0, 1 << 40},
		{"Undo.Kind", func(r *api.Rec, n int) { r.Undo.Kind = n }, 0, 3},
		{"Undo.Store", func(r *api.Rec, n int) { r.Undo.Store = n }, 0, api.MaxStores},
		{"Undo.Page", func(r *api.Rec, n int) { r.Undo.Page = n }, 0, api.MaxPages - 1},
		{"Undo.Slot", func(r *api.Rec, n int) { r.Undo.Slot = n }, 0, api.MaxCells - 1},
		{"Undo.Before.State", func(r *api.Rec, n int) { r.Undo.Before.State = n }, 0, 2},
		{"Id", func(r *api.Rec, n int) { r.Images = images(3); r.Images[1].Id = n }, 0, api.MaxPages - 1},
		{"Page.Level", func(r *api.Rec, n int) { r.Images = images(3); r.Images[2].Page.Level = n }, 0, 255},
		{"Live.Xct", func(r *api.Rec, n int) { r.Lives = lives(3); r.Lives[2].Xct = n }, 0, 1<<31 - 1},
		{"Live.First", func(r *api.Rec, n int) { r.Lives = lives(3); r.Lives[0].First = n }, 0, 1 << 40},
		{"Live.Last", func(r *api.Rec, n int) { r.Lives = lives(3); r.Lives[1].Last = n }, 0, 1 << 40},
	}
}

func checkRight(t *testing.T, name string, r api.Rec) {
	t.Helper()
	if e := logrec.Check(r); e != api.OK {
		t.Fatalf("%s: %+v: %d", name, r, e)
	}
	s, e := logrec.Encode(r)
	if e != api.OK || s != wantBytes(r) {
		t.Fatalf("%s: %+v: %x, %d", name, r, s, e)
	}
	back, e := logrec.Decode(s)
	if len(back.Images) == 0 {
		back.Images = r.Images
	}
	if len(back.Lives) == 0 {
		back.Lives = r.Lives
	}
	if e != api.OK || !reflect.DeepEqual(back, r) {
		t.Fatalf("%s: %+v: back %+v, %d", name, r, back, e)
	}
}

func checkWrong(t *testing.T, name string, r api.Rec) {
	t.Helper()
	if e := logrec.Check(r); e != api.ErrArg {
		t.Fatalf("%s: %+v: %d", name, r, e)
	}
	if s, e := logrec.Encode(r); s != "" || e != api.ErrArg {
		t.Fatalf("%s: %+v: %x, %d", name, r, s, e)
	}
}

func TestEdges(t *testing.T) { // P6.1, P6.2
	for _, x := range settings() {
		for _, n := range []int{x.least, x.least + 1, x.most - 1, x.most} {
			checkRight(t, x.name, with(func(r *api.Rec) { x.set(r, n) }))
		}
		for _, n := range []int{math.MinInt, -1, x.least - 1, x.most + 1, 1<<40 + 1, 1<<40 + 256, math.MaxInt} {
			checkWrong(t, x.name, with(func(r *api.Rec) { x.set(r, n) }))
		}
	}
	for _, n := range []int{0, 1, 23, 24} {
		checkRight(t, "images", with(func(r *api.Rec) { r.Images = images(n) }))
	}
	for _, n := range []int{0, 1, 7, 8} {
		checkRight(t, "lives", with(func(r *api.Rec) { r.Lives = lives(n) }))
	}
	for _, n := range []int{0, 1, 7, 8} {
		checkRight(t, "key", with(func(r *api.Rec) { r.Undo.Key = strings.Repeat("k", n) }))
	}
	for _, n := range []int{0, 1, 33, 34} { // even of a Free cell: the words ask no more
		checkRight(t, "data", with(func(r *api.Rec) { r.Undo.Before.Data = strings.Repeat("k", n) }))
	}
	checkRight(t, "empty lists", with(func(r *api.Rec) { r.Images, r.Lives = []api.Image{}, []api.Alive{} }))
	checkWrong(t, "25 images", with(func(r *api.Rec) { r.Images = images(25) }))
	checkWrong(t, "256 images", with(func(r *api.Rec) { r.Images = make([]api.Image, 256) }))
	checkWrong(t, "9 lives", with(func(r *api.Rec) { r.Lives = lives(9) }))
	checkWrong(t, "256 lives", with(func(r *api.Rec) { r.Lives = make([]api.Alive, 256) }))
	for _, n := range []int{9, 255, 256, 300} {
		checkWrong(t, "key", with(func(r *api.Rec) { r.Undo.Key = strings.Repeat("k", n) }))
	}
	for _, n := range []int{35, 255, 256, 300} {
		checkWrong(t, "data", with(func(r *api.Rec) { r.Undo.Before.Data = strings.Repeat("k", n) }))
	}
	checkWrong(t, "page", with(func(r *api.Rec) {
		r.Images = images(2)
		r.Images[1].Page.Cells[5] = api.Cell{Data: "x"}
	}))
	checkWrong(t, "zero", api.Rec{})
}

func greatest() api.Rec {
	return api.Rec{Kind: 6, Xct: 1<<31 - 1, Prev: 1 << 40, Next: 1 << 40, Fresh: 1<<31 - 1,
		Undo:   api.Undo{Kind: 3, Store: 6, Page: 1023, Slot: 5, Key: "\xff\xff\xff\xff\xff\xff\xff\xff", Before: api.Cell{State: 2, Data: strings.Repeat("\xff", 34)}},
		Images: images(24), Lives: lives(8)}
}

func TestExample(t *testing.T) { // P6.1
	r := with(func(*api.Rec) {})
	want := "\x03\x02\x00\x00\x00\x36" + strings.Repeat("\x00", 7+8+4+10+1+1)
	if s, e := logrec.Encode(r); s != want || e != api.OK {
		t.Fatalf("%x %d", s, e)
	}
	checkRight(t, "greatest", greatest())
	checkRight(t, "update", api.Rec{Kind: 1, Xct: 5, Prev: 99, Undo: api.Undo{Kind: 2, Store: 1, Key: "k", Before: api.Cell{State: 1, Data: "\x01kv"}}, Images: images(2)})
}

// strict: Decode answers ErrForm or a record whose bytes these are.
func strict(t *testing.T, s string) {
	t.Helper()
	r, e := logrec.Decode(s)
	if e == api.OK {
		if back, e := logrec.Encode(r); back != s || e != api.OK {
			t.Fatalf("%x: %x, %d", s, back, e)
		}
		return
	}
	if e != api.ErrForm || !reflect.DeepEqual(r, api.Rec{}) {
		t.Fatalf("%x: %+v, %d", s, r, e)
	}
}

func form(t *testing.T, s string) {
	t.Helper()
	if r, e := logrec.Decode(s); e != api.ErrForm || !reflect.DeepEqual(r, api.Rec{}) {
		t.Fatalf("%x: %+v, %d", s, r, e)
	}
}

func TestWrongBytes(t *testing.T) { // P6.1, P6.2
	for _, r := range []api.Rec{with(func(*api.Rec) {}), greatest(), with(func(r *api.Rec) { r.Images, r.Lives = images(1), lives(1) })} {
		s := wantBytes(r)
		for n := range len(s) {
			form(t, s[:n]) // whatever is missing
		}
		form(t, s+"\x00")
		form(t, s+s)
		form(t, "\x00"+s)
	}
	small := wantBytes(with(func(r *api.Rec) { r.Images, r.Lives = images(1), lives(1) }))
	for i := range len(small) {
		for v := range 256 {
			b := []byte(small)
			b[i] = byte(v)
			strict(t, string(b))
		}
	}
	for _, x := range settings() { // numbers that are too great stand in bytes as well
		for _, n := range []int{x.most + 1, -1} {
			if x.name == "Page.Level" {
				continue
			}
			form(t, wantBytes(with(func(r *api.Rec) { x.set(r, n) })))
		}
	}
	form(t, wantBytes(with(func(r *api.Rec) { r.Images = images(25) })))
	form(t, wantBytes(with(func(r *api.Rec) { r.Lives = lives(9) })))
	form(t, wantBytes(with(func(r *api.Rec) { r.Undo.Key = "123456789" })))
	form(t, wantBytes(with(func(r *api.Rec) { r.Undo.Before.Data = strings.Repeat("x", 35) })))
	form(t, wantBytes(with(func(r *api.Rec) { r.Kind = 0 })))
	form(t, "")
	form(t, strings.Repeat("\xff", 5000))
}

func TestHandedInStays(t *testing.T) { // rule 5
	r := greatest()
	s, _ := logrec.Encode(r)
	if !reflect.DeepEqual(r, greatest()) {
		t.Fatal("changed")
	}
	one, _ := logrec.Decode(s)
	two, _ := logrec.Decode(s)
	one.Images[0].Id, one.Lives[0].Xct = 5, 5
	if !reflect.DeepEqual(two, greatest()) {
		t.Fatal("shared")
	}
}
