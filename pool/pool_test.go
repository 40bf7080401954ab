package pool_test

import (
	"math"
	"slices"
	"strings"
	"testing"

	"jetty/api"
	"jetty/disk"
	"jetty/frame"
	"jetty/page"
	"jetty/pool"
	"jetty/wal"
)

// bench: a device with a log of 128 sectors at 0, and pages behind it.
func bench(t *testing.T, pages, frames int) (*disk.Disk, *wal.Log, *pool.Pool) {
	t.Helper()
	d, e := disk.New(128 + 4*pages)
	if e != api.OK {
		t.Fatal(e)
	}
	l, e := wal.Create(d, 0, 128)
	if e != api.OK {
		t.Fatal(e)
	}
	p, e := pool.New(d, l, 128, pages, frames)
	if e != api.OK {
		t.Fatal(e)
	}
	return d, l, p
}

// some: a right page that a number tells from others.
func some(n int) api.Page {
	p := api.Page{Kind: n % 5, Level: n % 256, Store: n % 65536, Next: n % 1024}
	p.Cells[n%6] = api.Cell{State: 1 + n%2, Data: strings.Repeat(string([]byte{byte(n)}), n%35)}
	return p
}

// sectors: what stands on the device of a page.
func sectors(t *testing.T, d *disk.Disk, base, id int) [4]string {
	t.Helper()
	var l [4]string
	for i := range l {
		s, e := d.Read(base + 4*id + i)
		if e != api.OK {
			t.Fatal(e)
		}
		l[i] = s
	}
	return l
}

func sealed(t *testing.T, x api.Page, stamp int) [4]string {
	t.Helper()
	body, e := page.Encode(x)
	if e != api.OK {
		t.Fatal(e)
	}
	s, e := frame.Seal(body, uint64(stamp))
	if e != api.OK {
		t.Fatal(e)
	}
	return s
}

func TestNew(t *testing.T) { // P12.1
	d, _ := disk.New(140)
	l, _ := wal.Create(d, 0, 128)
	big, _ := disk.New(api.MaxSectors)
	for _, c := range []struct {
		d                   *disk.Disk
		l                   *wal.Log
		base, pages, frames int
		e                   api.Errno
	}{
		{d, l, 128, 3, 4, api.OK}, {d, l, 128, 4, 4, api.ErrArg}, {d, l, 129, 3, 4, api.ErrArg}, {d, l, 136, 1, 4, api.OK}, {d, l, 137, 1, 4, api.ErrArg},
		{d, l, 140, 1, 4, api.ErrArg}, {d, l, 0, 35, 256, api.OK}, {d, l, -1, 1, 4, api.ErrArg}, {d, l, math.MinInt, 1, 4, api.ErrArg}, {d, l, math.MaxInt, 1, 4, api.ErrArg},
		{d, nil, 128, 3, 4, api.ErrArg}, {nil, l, 0, 1, 4, api.ErrArg}, {nil, nil, 0, 0, 0, api.ErrArg},
		{d, l, 128, 0, 4, api.ErrArg}, {d, l, 128, -1, 4, api.ErrArg}, {d, l, 128, math.MinInt, 4, api.ErrArg}, {d, l, 128, math.MaxInt, 4, api.ErrArg},
		{d, l, 128, 3, 3, api.ErrArg}, {d, l, 128, 3, 0, api.ErrArg}, {d, l, 128, 3, -1, api.ErrArg}, {d, l, 128, 3, 257, api.ErrArg}, {d, l, 128, 3, math.MaxInt, api.ErrArg},
		{big, l, 0, api.MaxPages, 4, api.OK}, {big, l, 0, api.MaxPages + 1, 4, api.ErrArg},
	} {
		p, e := pool.New(c.d, c.l, c.base, c.pages, c.frames)
		if e != c.e || (p != nil) != (e == api.OK) {
			t.Fatal(c.base, c.pages, c.frames, e)
		}
	}
}

func TestExample(t *testing.T) { // P12.1
	d, l, p := bench(t, 3, 4)
	l.Append("a record")
	for id := range 3 {
		if x, e := p.Get(id); x != (api.Page{}) || e != api.OK {
			t.Fatal(x, e)
		}
	}
	if e := p.Put(1, some(77), 54); e != api.OK {
		t.Fatal(e)
	}
	if x, e := p.Get(1); x != some(77) || e != api.OK {
		t.Fatal(x, e)
	}
	if !slices.Equal(p.Dirty(), []int{1}) {
		t.Fatal(p.Dirty())
	}
	if e := p.Flush(); e != api.OK || d.Pending() != 0 {
		t.Fatal(e, d.Pending())
	}
	if len(p.Dirty()) != 0 {
		t.Fatal(p.Dirty())
	}
	if sectors(t, d, 128, 1) != sealed(t, some(77), 54) {
		t.Fatal("the device has it otherwise")
	}
	if s, _ := d.Read(132); s[56:] != "\x36\x00\x00\x00\x00\x00\x00\x00" {
		t.Fatalf("%x", s)
	}
	for _, id := range []int{0, 2} {
		if sectors(t, d, 128, id) != sealed(t, api.Page{}, 0) {
			t.Fatal(id, "was written")
		}
	}
	if _, end, firm := l.Span(); end != firm {
		t.Fatal("the record isn't firm")
	}
}

func TestWrong(t *testing.T) { // P12.1
	d, _, p := bench(t, 3, 4)
	for _, id := range []int{math.MinInt, -1, 3, 4, 1024, math.MaxInt} {
		if x, e := p.Get(id); x != (api.Page{}) || e != api.ErrArg {
			t.Fatal(id, e)
		}
		if e := p.Put(id, some(1), 54); e != api.ErrArg {
			t.Fatal(id, e)
		}
	}
	for _, stamp := range []int{-1, math.MinInt} {
		if e := p.Put(0, some(1), stamp); e != api.ErrArg {
			t.Fatal(stamp, e)
		}
	}
	if e := p.Put(0, api.Page{Kind: 5}, 54); e != api.ErrArg {
		t.Fatal(e)
	}
	if e := p.Put(0, api.Page{Cells: [6]api.Cell{{Data: "x"}}}, 54); e != api.ErrArg {
		t.Fatal(e)
	}
	if len(p.Dirty()) != 0 || d.Pending() != 0 {
		t.Fatal("a refusal has changed something")
	}
	if e := p.Put(0, some(1), 0); e != api.OK {
		t.Fatal(e)
	}
	if e := p.Put(2, some(2), math.MaxInt); e != api.OK {
		t.Fatal(e)
	}
	if e := p.Flush(); e != api.OK || sectors(t, d, 128, 2) != sealed(t, some(2), math.MaxInt) {
		t.Fatal(e)
	}
	var none *pool.Pool
	if x, e := none.Get(0); x != (api.Page{}) || e != api.ErrArg {
		t.Fatal(e)
	}
	if none.Put(0, some(1), 54) != api.ErrArg || none.Flush() != api.ErrArg || none.Dirty() != nil {
		t.Fatal()
	}
}

func TestTornAndForm(t *testing.T) { // P12.1
	d, l, _ := bench(t, 4, 4)
	a, b := sealed(t, some(5), 60), sealed(t, some(6), 61)
	for i := range 4 {
		s := a[i]
		if i == 3 {
			s = b[i]
		}
		d.Write(128+i, s) // page 0 is torn
		d.Write(132+i, strings.Repeat("j", 64))
		d.Write(136+i, b[i])
	}
	p, e := pool.New(d, l, 128, 4, 4)
	if e != api.OK {
		t.Fatal(e)
	}
	for range 2 {
		if x, e := p.Get(0); x != (api.Page{}) || e != api.ErrTorn {
			t.Fatal(e)
		}
		if x, e := p.Get(1); x != (api.Page{}) || e != api.ErrForm {
			t.Fatal(e)
		}
		if x, e := p.Get(2); x != some(6) || e != api.OK {
			t.Fatal(e)
		}
	}
	if e := p.Put(0, some(9), 54); e != api.OK {
		t.Fatal("a torn page can be put", e)
	}
	if x, e := p.Get(0); x != some(9) || e != api.OK {
		t.Fatal(e)
	}
	if e := p.Flush(); e != api.OK {
		t.Fatal(e)
	}
	if x, e := p.Get(1); x != (api.Page{}) || e != api.ErrForm {
		t.Fatal(e)
	}
}

func TestDown(t *testing.T) { // P12.1
	d, _, p := bench(t, 9, 4)
	if e := p.Put(0, some(1), 54); e != api.OK {
		t.Fatal(e)
	}
	d.Crash(nil)
	if x, e := p.Get(8); x != (api.Page{}) || e != api.ErrDown {
		t.Fatal(e)
	}
	if e := p.Flush(); e != api.ErrDown {
		t.Fatal(e)
	}
	d, l, p := bench(t, 9, 4)
	at, _ := l.Append("r")
	for id := range 4 {
		if e := p.Put(id, some(id), at); e != api.OK {
			t.Fatal(e)
		}
	}
	d.Fuel(0)
	e := api.OK
	for id := 4; id < 9; id++ {
		e = max(e, p.Put(id, some(id), at))
	}
	if e != api.ErrDown {
		t.Fatal("nine pages in four frames", e)
	}
}

func TestManyPages(t *testing.T) { // P12.1, P12.3
	seed := uint64(17)
	next := func(n int) int {
		seed = seed*6364136223846793005 + 1442695040888963407
		return int(seed>>33) % n
	}
	for round, frames := range []int{4, 5, 8, 40, 256} {
		d, l, p := bench(t, 30, frames)
		model := make([]api.Page, 30)
		for k := range 4000 {
			id := next(30)
			switch next(8) {
			case 0, 1, 2:
				at, e := l.Append("some record")
				if e == api.ErrFull {
					if e := p.Flush(); e != api.OK {
						t.Fatal(e)
					}
					_, end, _ := l.Span()
					l.Flush(end)
					if e := l.Cut(end); e != api.OK {
						t.Fatal(e)
					}
					at, _ = l.Append("some record")
				}
				model[id] = some(k)
				if e := p.Put(id, model[id], at); e != api.OK {
					t.Fatal(round, k, e)
				}
				if !slices.Contains(p.Dirty(), id) {
					t.Fatal(k, "put, and not dirty")
				}
			case 3:
				if next(20) > 0 {
					break
				}
				if e := p.Flush(); e != api.OK || len(p.Dirty()) != 0 || d.Pending() != 0 {
					t.Fatal(e, p.Dirty())
				}
				q, _ := pool.New(d, l, 128, 30, 4)
				for i, want := range model {
					if x, e := q.Get(i); x != want || e != api.OK {
						t.Fatal(round, k, i, "isn't on the device")
					}
				}
			default:
				if x, e := p.Get(id); x != model[id] || e != api.OK {
					t.Fatal(round, k, id, x, e)
				}
			}
			dirty := p.Dirty()
			if len(dirty) > frames || !slices.IsSorted(dirty) || len(slices.Compact(slices.Clone(dirty))) != len(dirty) {
				t.Fatal(round, k, dirty)
			}
			for i := range 30 { // what isn't dirty is on the device
				if k%50 == 0 && !slices.Contains(dirty, i) {
					body, _, e := frame.Open(sectors(t, d, 128, i))
					x, e2 := page.Decode(body)
					if e != api.OK || e2 != api.OK || x != model[i] {
						t.Fatal(round, k, i)
					}
				}
			}
		}
	}
}

// put: what a page was made, by which record.
type put struct {
	page  api.Page
	stamp int
}

func TestTheLogFirst(t *testing.T) { // P12.2
	seed := uint64(29)
	next := func(n int) int {
		seed = seed*6364136223846793005 + 1442695040888963407
		return int(seed>>33) % n
	}
	lost, torn := 0, 0
	for round := range 1500 {
		d, l, p := bench(t, 9, 4)
		said := make([][]put, 9)
		for id := range said {
			said[id] = []put{{}}
		}
		d.Fuel(next(120))
		for k := range next(40) {
			at, e := l.Append(strings.Repeat("r", 1+next(60)))
			if e != api.OK {
				t.Fatal(e)
			}
			id := next(9)
			said[id] = append(said[id], put{some(round + k), at})
			if p.Put(id, some(round+k), at) != api.OK || next(12) == 0 && p.Flush() != api.OK {
				break
			}
			p.Get(next(9))
		}
		keep := make([]bool, d.Pending())
		way := next(4)
		for i := range keep {
			keep[i] = way == 0 || way > 1 && next(way) == 0
		}
		_, end, _ := l.Span()
		x := d.Crash(keep)
		m, _, e := wal.Open(x, 0, 128, 54)
		if e != api.OK {
			t.Fatal(e)
		}
		if _, e, _ := m.Span(); e < end {
			lost++
		}
		for id := range 9 {
			body, stamp, e := frame.Open(sectors(t, x, 128, id))
			if e == api.ErrTorn {
				torn++
				continue
			}
			got, e := page.Decode(body)
			if e != api.OK || !slices.Contains(said[id], put{got, int(stamp)}) {
				t.Fatal(round, id, stamp, "was never put")
			}
			if stamp > 0 {
				if _, e := m.Read(int(stamp)); e != api.OK {
					t.Fatal(round, id, stamp, "stands ahead of its record")
				}
			}
		}
	}
	if lost == 0 || torn == 0 {
		t.Fatal("no crash that matters", lost, torn)
	}
}
