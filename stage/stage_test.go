package stage_test

import (
	"math"
	"slices"
	"strings"
	"testing"

	"jetty/api"
	"jetty/stage"
)

func some(n int) api.Page {
	p := api.Page{Kind: n % 5, Level: n % 256, Store: n % 65536, Next: n % 1024}
	p.Cells[n%6] = api.Cell{State: 1 + n%2, Data: strings.Repeat(string([]byte{byte(n)}), n%35)}
	return p
}

// odd is a source of one's own: some pages it refuses.
type odd struct{ bad map[int]api.Errno }

func (o odd) Get(id int) (api.Page, api.Errno) { return some(id + 7), o.bad[id] }

func get(t *testing.T, s stage.Source, id int, want api.Page, e api.Errno) {
	t.Helper()
	if p, err := s.Get(id); p != want || err != e {
		t.Fatalf("Get(%d): %+v, %d", id, p, err)
	}
}

func memory(t *testing.T, n int) *stage.Shelf {
	t.Helper()
	m, e := stage.Memory(n)
	if m == nil || e != api.OK {
		t.Fatal(e)
	}
	return m
}

func TestExample(t *testing.T) { // P13.1
	m := memory(t, 2)
	s := stage.New(m)
	if e := s.Set(1, some(3)); e != api.OK {
		t.Fatal(e)
	}
	get(t, s, 1, some(3), api.OK)
	get(t, m, 1, api.Page{}, api.OK)
	if l, e := s.Images(); e != api.OK || !slices.Equal(l, []api.Image{{Id: 1, Page: some(3)}}) {
		t.Fatal(l, e)
	}
	if e := s.Set(1, api.Page{}); e != api.OK {
		t.Fatal(e)
	}
	if l, e := s.Images(); e != api.OK || len(l) != 0 {
		t.Fatal(l, e)
	}
	if e := s.Set(1024, some(3)); e != api.ErrArg {
		t.Fatal(e)
	}
}

func TestShelf(t *testing.T) { // P13.1
	for _, n := range []int{math.MinInt, -1, 0, api.MaxPages + 1, math.MaxInt} {
		if m, e := stage.Memory(n); m != nil || e != api.ErrArg {
			t.Fatal(n, e)
		}
	}
	for _, n := range []int{1, 2, api.MaxPages} {
		m := memory(t, n)
		get(t, m, 0, api.Page{}, api.OK)
		get(t, m, n-1, api.Page{}, api.OK)
		for _, id := range []int{math.MinInt, -1, n, n + 1, math.MaxInt} {
			get(t, m, id, api.Page{}, api.ErrArg)
		}
	}
	m := memory(t, 3)
	if e := m.Apply([]api.Image{{Id: 0, Page: some(1)}, {Id: 2, Page: some(2)}, {Id: 0, Page: some(3)}}); e != api.OK {
		t.Fatal(e)
	}
	get(t, m, 0, some(3), api.OK)
	get(t, m, 1, api.Page{}, api.OK)
	get(t, m, 2, some(2), api.OK)
	for _, bad := range []api.Image{{Id: 3}, {Id: -1}, {Id: math.MinInt}, {Id: math.MaxInt}, {Id: 1, Page: api.Page{Kind: 5}}, {Id: 1, Page: api.Page{Next: 1024}}} {
		if e := m.Apply([]api.Image{{Id: 1, Page: some(9)}, bad}); e != api.ErrArg {
			t.Fatal(bad, e)
		}
		if e := m.Apply([]api.Image{bad, {Id: 1, Page: some(9)}}); e != api.ErrArg {
			t.Fatal(bad, e)
		}
		get(t, m, 1, api.Page{}, api.OK)
	}
	if e := m.Apply(nil); e != api.OK {
		t.Fatal(e)
	}
	var none *stage.Shelf
	get(t, none, 0, api.Page{}, api.ErrArg)
	if none.Apply(nil) != api.ErrArg || none.Apply([]api.Image{{}}) != api.ErrArg {
		t.Fatal()
	}
}

func TestSet(t *testing.T) { // P13.1
	s := stage.New(memory(t, 2))
	for _, id := range []int{math.MinInt, -1, 1024, math.MaxInt} {
		if e := s.Set(id, some(1)); e != api.ErrArg {
			t.Fatal(id, e)
		}
		get(t, s, id, api.Page{}, api.ErrArg)
	}
	for _, p := range []api.Page{{Kind: 5}, {Kind: -1}, {Level: 256}, {Store: 65536}, {Next: 1024}, {Cells: [6]api.Cell{5: {Data: "x"}}}} {
		if e := s.Set(1, p); e != api.ErrArg {
			t.Fatal(p, e)
		}
	}
	get(t, s, 1, api.Page{}, api.OK)
	for _, id := range []int{0, 1, 2, 1023} { // a stage takes pages that its source doesn't have
		if e := s.Set(id, some(id)); e != api.OK {
			t.Fatal(id, e)
		}
		get(t, s, id, some(id), api.OK)
	}
	if l, e := s.Images(); l != nil || e != api.ErrArg {
		t.Fatal(l, e)
	}
	s.Drop()
	get(t, s, 0, api.Page{}, api.OK)
	get(t, s, 2, api.Page{}, api.ErrArg)
	if l, e := s.Images(); len(l) != 0 || e != api.OK {
		t.Fatal(l, e)
	}
}

func TestNilThings(t *testing.T) { // P13.1
	s := stage.New(nil)
	if s == nil {
		t.Fatal("never nil")
	}
	get(t, s, 0, api.Page{}, api.ErrArg)
	if l, e := s.Images(); len(l) != 0 || e != api.OK {
		t.Fatal(l, e)
	}
	if e := s.Set(0, some(1)); e != api.OK {
		t.Fatal(e)
	}
	get(t, s, 0, some(1), api.OK)
	get(t, s, 1, api.Page{}, api.ErrArg)
	if l, e := s.Images(); l != nil || e != api.ErrArg {
		t.Fatal(l, e)
	}
	var shelf *stage.Shelf
	get(t, stage.New(shelf), 0, api.Page{}, api.ErrArg)
	var none *stage.Stage
	get(t, none, 0, api.Page{}, api.ErrArg)
	get(t, stage.New(none), 0, api.Page{}, api.ErrArg)
	if l, e := none.Images(); l != nil || e != api.ErrArg {
		t.Fatal(l, e)
	}
	if none.Set(0, some(1)) != api.ErrArg {
		t.Fatal()
	}
	none.Drop()
}

func TestErrorsOfTheSource(t *testing.T) { // P13.1
	s := stage.New(odd{map[int]api.Errno{3: api.ErrTorn, 5: api.ErrForm, 900: api.ErrDown}})
	get(t, s, 3, api.Page{}, api.ErrTorn)
	get(t, s, 5, api.Page{}, api.ErrForm)
	for _, id := range []int{900, 5, 2} {
		if e := s.Set(id, some(id)); e != api.OK {
			t.Fatal(e)
		}
	}
	get(t, s, 5, some(5), api.OK)
	if l, e := s.Images(); l != nil || e != api.ErrForm {
		t.Fatal("the first one in the order of their numbers", e)
	}
	s.Set(3, some(1))
	if l, e := s.Images(); l != nil || e != api.ErrTorn {
		t.Fatal(e)
	}
	s.Drop()
	s.Set(2, some(9)) // just as the source has it
	s.Set(4, some(4))
	if l, e := s.Images(); e != api.OK || !slices.Equal(l, []api.Image{{Id: 4, Page: some(4)}}) {
		t.Fatal(l, e)
	}
}

func TestTwoStages(t *testing.T) { // P13.1: a stage is a source too
	m := memory(t, 4)
	low := stage.New(m)
	low.Set(1, some(1))
	high := stage.New(low)
	high.Set(1, some(1))
	high.Set(2, some(2))
	if l, e := high.Images(); e != api.OK || !slices.Equal(l, []api.Image{{Id: 2, Page: some(2)}}) {
		t.Fatal(l, e)
	}
	get(t, low, 2, api.Page{}, api.OK)
	low.Drop()
	if l, e := high.Images(); e != api.OK || len(l) != 2 {
		t.Fatal(l, e)
	}
}

func TestEveryOrder(t *testing.T) { // P13.1, P13.2
	seed := uint64(19)
	next := func(n int) int {
		seed = seed*6364136223846793005 + 1442695040888963407
		return int(seed>>33) % n
	}
	m := memory(t, 12)
	s := stage.New(m)
	var firm [12]api.Page
	now := firm
	for k := range 20000 {
		id := next(12)
		switch next(8) {
		case 0, 1, 2:
			p := some(next(9))
			if next(3) == 0 {
				p = firm[id]
			}
			now[id] = p
			if e := s.Set(id, p); e != api.OK {
				t.Fatal(e)
			}
		case 3:
			if next(4) == 0 {
				s.Drop()
				now = firm
			}
		case 4:
			l, e := s.Images()
			var want []api.Image
			for i := range now {
				if now[i] != firm[i] {
					want = append(want, api.Image{Id: i, Page: now[i]})
				}
			}
			if e != api.OK || !slices.Equal(l, want) {
				t.Fatal(k, l, want, e)
			}
			if next(2) == 0 {
				if e := m.Apply(l); e != api.OK {
					t.Fatal(e)
				}
				firm = now
			}
		default:
			get(t, s, id, now[id], api.OK)
			get(t, m, id, firm[id], api.OK)
		}
	}
}
