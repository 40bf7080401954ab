package disk_test

import (
	"math"
	"strings"
	"testing"

	"jetty/api"
	"jetty/disk"
)

func sector(b byte) string { return strings.Repeat(string([]byte{b}), api.SectorSize) }

func make2(t *testing.T, n int) *disk.Disk {
	t.Helper()
	d, e := disk.New(n)
	if d == nil || e != api.OK {
		t.Fatal(e)
	}
	return d
}

func look(t *testing.T, d *disk.Disk, want string) {
	t.Helper()
	if d.Size() != len(want) {
		t.Fatalf("%d sectors", d.Size())
	}
	for i := range len(want) {
		if s, e := d.Read(i); s != sector(want[i]) || e != api.OK {
			t.Fatalf("sector %d: %q, %d", i, s, e)
		}
	}
}

func TestNew(t *testing.T) { // P2.1
	for _, n := range []int{math.MinInt, -1, 0, api.MaxSectors + 1, math.MaxInt} {
		if d, e := disk.New(n); d != nil || e != api.ErrArg {
			t.Fatal(n, e)
		}
	}
	for _, n := range []int{1, 2, api.MaxSectors} {
		d := make2(t, n)
		if d.Size() != n || d.Pending() != 0 {
			t.Fatal(n, d.Size(), d.Pending())
		}
		for _, i := range []int{0, n / 2, n - 1} {
			if s, e := d.Read(i); s != sector(0) || e != api.OK {
				t.Fatalf("%d: %q, %d", i, s, e)
			}
		}
		for _, i := range []int{math.MinInt, -1, n, n + 1, math.MaxInt} {
			if s, e := d.Read(i); s != "" || e != api.ErrArg {
				t.Fatalf("%d: %q, %d", i, s, e)
			}
			if e := d.Write(i, sector(1)); e != api.ErrArg || d.Pending() != 0 {
				t.Fatal(i, e)
			}
		}
	}
}

func TestExamples(t *testing.T) { // P2.1
	for _, c := range []struct {
		keep []bool
		want string
	}{
		{[]bool{true}, "b\x00"},
		{[]bool{false, true}, "ac"},
		{nil, "a\x00"},
		{[]bool{}, "a\x00"},
		{[]bool{true, true}, "bc"},
		{[]bool{true, true, true, true}, "bc"},
		{[]bool{false, false, true}, "a\x00"},
	} {
		d := make2(t, 2)
		if d.Write(0, sector('a')) != api.OK || d.Pending() != 1 || d.Barrier() != api.OK || d.Pending() != 0 {
			t.Fatal()
		}
		if d.Write(0, sector('b')) != api.OK || d.Write(1, sector('c')) != api.OK || d.Pending() != 2 {
			t.Fatal()
		}
		look(t, d, "bc")
		for range 2 { // Crash may be called again
			x := d.Crash(c.keep)
			look(t, x, c.want)
			if x.Pending() != 0 || d.Pending() != 2 || d.Size() != 2 {
				t.Fatal(x.Pending(), d.Pending())
			}
			if _, e := d.Read(0); e != api.ErrDown {
				t.Fatal(e)
			}
			if x.Write(1, sector('z')) != api.OK || x.Barrier() != api.OK {
				t.Fatal("what a crash leaves is a device")
			}
		}
	}
	d := make2(t, 2)
	d.Fuel(1)
	if e := d.Write(0, sector('a')); e != api.OK {
		t.Fatal(e)
	}
	if e := d.Write(1, sector('b')); e != api.ErrDown {
		t.Fatal(e)
	}
	if s, e := d.Read(0); s != "" || e != api.ErrDown {
		t.Fatal(s, e)
	}
	look(t, d.Crash([]bool{true, true}), "a\x00")
}

func TestKeepTwice(t *testing.T) { // P2.2: one sector, several moments
	for mask := range 8 {
		d := make2(t, 1)
		d.Write(0, sector('a'))
		d.Barrier()
		want := byte('a')
		var keep []bool
		for i := range 3 {
			d.Write(0, sector(byte('b'+i)))
			keep = append(keep, mask>>i&1 == 1)
			if keep[i] {
				want = byte('b' + i)
			}
		}
		look(t, d.Crash(keep), string([]byte{want}))
	}
}

func TestFuel(t *testing.T) { // P2.1
	for _, n := range []int{0, 1, 2, 3, 7} {
		d := make2(t, 3)
		d.Fuel(n)
		if s, e := d.Read(0); s != sector(0) || e != api.OK {
			t.Fatal("reading burns no fuel")
		}
		for i := range n {
			if e := d.Write(3, sector(1)); e != api.ErrArg {
				t.Fatal("a wrong write burns no fuel", e)
			}
			if e := d.Write(0, sector(1)[1:]); e != api.ErrArg {
				t.Fatal("a wrong write burns no fuel", e)
			}
			e := api.OK
			if i%2 == 0 {
				e = d.Write(0, sector(1))
			} else {
				e = d.Barrier()
			}
			if e != api.OK {
				t.Fatal(n, i, e)
			}
		}
		if e := d.Barrier(); e != api.ErrDown {
			t.Fatal(n, e)
		}
		d.Fuel(-1)
		if e := d.Barrier(); e != api.ErrDown {
			t.Fatal("down stays down", e)
		}
		if e := d.Write(9, ""); e != api.ErrDown {
			t.Fatal("down comes first", e)
		}
		if _, e := d.Read(9); e != api.ErrDown {
			t.Fatal("down comes first", e)
		}
		if d.Size() != 3 {
			t.Fatal(d.Size())
		}
	}
	d := make2(t, 1)
	d.Fuel(0)
	d.Fuel(math.MinInt)
	for range 100 {
		if d.Write(0, sector(2)) != api.OK || d.Barrier() != api.OK {
			t.Fatal("without a bound")
		}
	}
	d.Fuel(2)
	if x := d.Crash(nil); x.Write(0, sector(3)) != api.OK || x.Write(0, sector(3)) != api.OK || x.Barrier() != api.OK {
		t.Fatal("a crash leaves fuel without a bound")
	}
}

func TestBarrierThatFails(t *testing.T) { // P2.1, P2.2
	d := make2(t, 2)
	d.Write(0, sector('a'))
	d.Fuel(0)
	if e := d.Barrier(); e != api.ErrDown || d.Pending() != 1 {
		t.Fatal(e, d.Pending())
	}
	look(t, d.Crash(nil), "\x00\x00")
	look(t, d.Crash([]bool{true}), "a\x00")
}

func TestWrongData(t *testing.T) { // P2.1
	d := make2(t, 2)
	for _, n := range []int{0, 1, 63, 65, 128} {
		if e := d.Write(0, strings.Repeat("x", n)); e != api.ErrArg || d.Pending() != 0 {
			t.Fatal(n, e)
		}
	}
	look(t, d, "\x00\x00")
}

func TestNil(t *testing.T) { // P2.1
	var d *disk.Disk
	d.Fuel(3)
	if d.Size() != 0 || d.Pending() != 0 || d.Crash([]bool{true}) != nil {
		t.Fatal()
	}
	if s, e := d.Read(0); s != "" || e != api.ErrDown {
		t.Fatal(s, e)
	}
	if d.Write(0, sector(0)) != api.ErrDown || d.Barrier() != api.ErrDown {
		t.Fatal()
	}
}

func TestKeepStays(t *testing.T) { // rule 5: what is handed in is neither changed nor kept
	d := make2(t, 2)
	d.Write(0, sector('a'))
	d.Write(1, sector('b'))
	keep := []bool{true, false}
	x := d.Crash(keep)
	if !keep[0] || keep[1] {
		t.Fatal(keep)
	}
	keep[1] = true
	look(t, x, "a\x00")
}

// model: a device by the words.
type model struct {
	firm    []byte
	pending [][2]int
	fuel    int
	down    bool
}

func (m *model) burn() bool {
	if m.down || m.fuel == 0 {
		m.down = true
		return false
	}
	if m.fuel > 0 {
		m.fuel--
	}
	return true
}

func (m *model) now(keep []bool) string {
	b := append([]byte(nil), m.firm...)
	for i, w := range m.pending {
		if keep == nil || i < len(keep) && keep[i] {
			b[w[0]] = byte(w[1])
		}
	}
	return string(b)
}

func TestEveryOrder(t *testing.T) { // P2.1, P2.2
	seed := uint64(3)
	next := func(n int) int {
		seed = seed*6364136223846793005 + 1442695040888963407
		return int(seed>>33) % n
	}
	d, m := make2(t, 4), &model{firm: make([]byte, 4), fuel: -1}
	for k := range 60000 {
		switch next(6) {
		case 0, 1, 2:
			i, b := next(4), next(256)
			ok := m.burn()
			if ok {
				m.pending = append(m.pending, [2]int{i, b})
			}
			if e := d.Write(i, sector(byte(b))); (e == api.OK) != ok || !ok && e != api.ErrDown {
				t.Fatal(k, e)
			}
		case 3:
			ok := m.burn()
			if ok {
				m.firm, m.pending = []byte(m.now(nil)), nil
			}
			if e := d.Barrier(); (e == api.OK) != ok || !ok && e != api.ErrDown {
				t.Fatal(k, e)
			}
		case 4:
			n := next(30) - 3
			d.Fuel(n)
			m.fuel = max(n, -1)
		case 5:
			keep := make([]bool, next(8))
			for i := range keep {
				keep[i] = next(2) == 1
			}
			if !m.down && next(10) > 0 {
				look(t, d, m.now(nil))
				continue
			}
			old := d
			d = d.Crash(keep)
			m = &model{firm: []byte(m.now(keep)), fuel: -1}
			look(t, d, m.now(nil))
			if e := old.Barrier(); e != api.ErrDown {
				t.Fatal(e)
			}
		}
		if d.Pending() != len(m.pending) {
			t.Fatal(k, d.Pending())
		}
	}
}
