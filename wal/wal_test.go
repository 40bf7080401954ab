package wal_test

import (
	"math"
	"slices"
	"strings"
	"testing"

	"jetty/api"
	"jetty/disk"
	"jetty/wal"
)

func device(t *testing.T, n int) *disk.Disk {
	t.Helper()
	d, e := disk.New(n)
	if e != api.OK {
		t.Fatal(e)
	}
	return d
}

func num(n, width int) string {
	b := make([]byte, width)
	for i := range b {
		b[i] = byte(n >> (8 * i))
	}
	return string(b)
}

// sectorOf: the stream's sector k with these bytes.
func sectorOf(k int, data string) string {
	return num(k+1, 8) + num(len(data), 2) + data + strings.Repeat("\x00", 54-len(data))
}

var blank = strings.Repeat("\x00", 64)

func dump(d *disk.Disk, first, n int) []string {
	var l []string
	for i := range n {
		s, _ := d.Read(first + i)
		l = append(l, s)
	}
	return l
}

func span(t *testing.T, l *wal.Log, start, end, firm int) {
	t.Helper()
	if a, b, c := l.Span(); a != start || b != end || c != firm {
		t.Fatalf("span %d %d %d, not %d %d %d", a, b, c, start, end, firm)
	}
}

func TestExamples(t *testing.T) { // P7.1
	d := device(t, 130)
	for i := range 130 {
		d.Write(i, strings.Repeat("j", 64))
	}
	l, e := wal.Create(d, 1, 128)
	if e != api.OK || d.Pending() != 0 {
		t.Fatal(e)
	}
	for i, s := range dump(d, 0, 130) {
		if (s == blank) != (i > 0 && i < 129) {
			t.Fatal(i, s)
		}
	}
	span(t, l, 54, 54, 54)
	if l.Room() != 128*54 {
		t.Fatal(l.Room())
	}
	if at, e := l.Append("ab"); at != 54 || e != api.OK {
		t.Fatal(at, e)
	}
	if at, e := l.Append("c"); at != 58 || e != api.OK {
		t.Fatal(at, e)
	}
	span(t, l, 54, 61, 54)
	if e := l.Flush(53); e != api.OK {
		t.Fatal(e)
	}
	span(t, l, 54, 61, 54)
	if e := l.Flush(54); e != api.OK || d.Pending() != 0 {
		t.Fatal(e)
	}
	span(t, l, 54, 61, 61)
	if s, _ := d.Read(2); s != "\x02"+strings.Repeat("\x00", 7)+"\x07\x00\x02\x00ab\x01\x00c"+strings.Repeat("\x00", 47) {
		t.Fatalf("%x", s)
	}
	if s, e := l.Read(58); s != "c" || e != api.OK {
		t.Fatal(s, e)
	}
	for _, at := range []int{math.MinInt, -1, 0, 53, 55, 59, 61, math.MaxInt} {
		if s, e := l.Read(at); s != "" || e != api.ErrNone {
			t.Fatal(at, s, e)
		}
	}
	m, es, e := wal.Open(d, 1, 128, 54)
	if e != api.OK || !slices.Equal(es, []api.Entry{{At: 54, Bytes: "ab"}, {At: 58, Bytes: "c"}}) {
		t.Fatal(es, e)
	}
	span(t, m, 54, 61, 61)
	if e := m.Cut(58); e != api.OK {
		t.Fatal(e)
	}
	span(t, m, 58, 61, 61)
	if _, e := m.Read(54); e != api.ErrNone {
		t.Fatal(e)
	}
	m, es, e = wal.Open(d, 1, 128, 58)
	if e != api.OK || !slices.Equal(es, []api.Entry{{At: 58, Bytes: "c"}}) {
		t.Fatal(es, e)
	}
	if at, e := m.Append(""); at != 0 || e != api.ErrArg {
		t.Fatal(at, e)
	}
	if at, e := m.Append(strings.Repeat("x", 6912)); at != 0 || e != api.ErrFull || m.Room() != 6905 {
		t.Fatal(at, e, m.Room())
	}
}

func TestRings(t *testing.T) { // P7.1
	d := device(t, 200)
	for _, c := range []struct{ first, n int }{
		{-1, 128}, {math.MinInt, 128}, {0, 127}, {0, 0}, {0, -1}, {0, math.MinInt}, {0, 201}, {73, 128}, {200, 128}, {math.MaxInt, 128},
		{0, api.MaxLog + 1}, {0, math.MaxInt}, {math.MaxInt, math.MaxInt}, {1, 200},
	} {
		if l, e := wal.Create(d, c.first, c.n); l != nil || e != api.ErrArg {
			t.Fatal(c, e)
		}
		if l, es, e := wal.Open(d, c.first, c.n, 54); l != nil || es != nil || e != api.ErrArg {
			t.Fatal(c, e)
		}
	}
	if l, e := wal.Create(nil, 0, 128); l != nil || e != api.ErrArg {
		t.Fatal(e)
	}
	if l, es, e := wal.Open(nil, 0, 128, 54); l != nil || es != nil || e != api.ErrArg {
		t.Fatal(e)
	}
	for _, at := range []int{math.MinInt, -1, 0, 53, 1<<40 + 1, math.MaxInt} {
		if l, es, e := wal.Open(d, 0, 128, at); l != nil || es != nil || e != api.ErrArg {
			t.Fatal(at, e)
		}
	}
	if d.Pending() != 0 {
		t.Fatal("a refusal has changed something")
	}
	for _, c := range []struct{ first, n int }{{0, 128}, {72, 128}, {0, 200}} {
		if l, e := wal.Create(d, c.first, c.n); l == nil || e != api.OK {
			t.Fatal(c, e)
		}
	}
	big := device(t, api.MaxLog+1)
	if l, e := wal.Create(big, 1, api.MaxLog); e != api.OK || l.Room() != 54*api.MaxLog {
		t.Fatal(e)
	}
	if l, es, e := wal.Open(big, 1, api.MaxLog, 1<<40); e != api.OK || len(es) != 0 || l.Room() != 54*api.MaxLog-1<<40%54 {
		t.Fatal(e, l.Room())
	}
	if l, e := wal.Create(device(t, api.MaxLog+1), 0, api.MaxLog+1); l != nil || e != api.ErrArg {
		t.Fatal(e)
	}
}

func TestLong(t *testing.T) { // P7.1
	l, _ := wal.Create(device(t, 4096), 0, 4096)
	if at, e := l.Append(strings.Repeat("x", 65536)); at != 0 || e != api.ErrLong {
		t.Fatal(at, e)
	}
	for i := range 3 {
		if at, e := l.Append(strings.Repeat("x", 65535)); at != 54+65537*i || e != api.OK {
			t.Fatal(at, e)
		}
	}
	if at, e := l.Append(strings.Repeat("x", 65535)); at != 0 || e != api.ErrFull {
		t.Fatal(at, e)
	}
	room := l.Room()
	if room != 4096*54-3*65537 {
		t.Fatal(room)
	}
	if _, e := l.Append(strings.Repeat("y", room-1)); e != api.ErrFull {
		t.Fatal(e)
	}
	if at, e := l.Append(strings.Repeat("y", room-2)); at != 54+3*65537 || e != api.OK || l.Room() != 0 {
		t.Fatal(at, e)
	}
	if _, e := l.Append("z"); e != api.ErrFull {
		t.Fatal(e)
	}
	if e := l.Flush(54); e != api.OK {
		t.Fatal(e)
	}
	if e := l.Cut(54 + 65537); e != api.OK || l.Room() != 65537-(54+65537)%54 {
		t.Fatal(e, l.Room())
	}
	if s, e := l.Read(54 + 3*65537); e != api.OK || s != strings.Repeat("y", room-2) {
		t.Fatal(e)
	}
}

func TestDown(t *testing.T) { // P7.1: the first error of the device
	for fuel := range 129 {
		d := device(t, 128)
		d.Fuel(fuel)
		if l, e := wal.Create(d, 0, 128); l != nil || e != api.ErrDown {
			t.Fatal(fuel, e)
		}
		if l, es, e := wal.Open(d, 0, 128, 54); l != nil || es != nil || e != api.ErrDown {
			t.Fatal(fuel, e)
		}
	}
	d := device(t, 128)
	d.Fuel(129)
	l, e := wal.Create(d, 0, 128)
	if e != api.OK {
		t.Fatal(e)
	}
	l.Append("ab")
	for range 2 {
		if e := l.Flush(54); e != api.ErrDown {
			t.Fatal(e)
		}
		span(t, l, 54, 58, 54)
	}
	if s, e := l.Read(54); s != "ab" || e != api.OK {
		t.Fatal(s, e)
	}
	if e := l.Cut(58); e != api.ErrArg {
		t.Fatal("greater than firm", e)
	}
	if e := l.Cut(54); e != api.OK {
		t.Fatal(e)
	}
	d = device(t, 128)
	l, _ = wal.Create(d, 0, 128)
	l.Append(strings.Repeat("x", 150)) // three sectors and a barrier
	d.Fuel(3)
	if e := l.Flush(54); e != api.ErrDown {
		t.Fatal(e)
	}
	span(t, l, 54, 206, 54)
	d.Fuel(-1)
	d = device(t, 128)
	l, _ = wal.Create(d, 0, 128)
	l.Append(strings.Repeat("x", 150))
	d.Fuel(4)
	if e := l.Flush(54); e != api.OK {
		t.Fatal(e)
	}
	if l, es, e := wal.Open(d, 0, 128, 54); l != nil || es != nil || e != api.ErrDown { // nothing to wipe, but the barrier
		t.Fatal(e)
	}
	d = device(t, 128)
	l, _ = wal.Create(d, 0, 128)
	d.Fuel(0)
	if e := l.Flush(54); e != api.OK {
		t.Fatal("nothing to flush", e)
	}
}

func TestCut(t *testing.T) { // P7.1
	d := device(t, 128)
	l, _ := wal.Create(d, 0, 128)
	for _, s := range []string{"ab", "c", "def"} {
		l.Append(s)
	}
	l.Flush(60)
	l.Append("gh")
	for _, at := range []int{math.MinInt, 0, 53, 55, 59, 65, 67, 70, 71, math.MaxInt} {
		if e := l.Cut(at); e != api.ErrArg {
			t.Fatal(at, e)
		}
	}
	span(t, l, 54, 70, 66)
	before := dump(d, 0, 128)
	if e := l.Cut(61); e != api.OK {
		t.Fatal(e)
	}
	span(t, l, 61, 70, 66)
	if e := l.Cut(58); e != api.ErrArg {
		t.Fatal("no record that is kept", e)
	}
	if !slices.Equal(before, dump(d, 0, 128)) || d.Pending() != 0 {
		t.Fatal("the device was touched")
	}
	if s, e := l.Read(61); s != "def" || e != api.OK {
		t.Fatal(s, e)
	}
	if e := l.Cut(66); e != api.OK { // firm, and a record's place
		t.Fatal(e)
	}
	if s, e := l.Read(66); s != "gh" || e != api.OK {
		t.Fatal(s, e)
	}
	l.Flush(66)
	if e := l.Cut(70); e != api.OK {
		t.Fatal(e)
	}
	span(t, l, 70, 70, 70)
	if s, e := l.Read(66); s != "" || e != api.ErrNone {
		t.Fatal(s, e)
	}
	if at, e := l.Append("z"); at != 70 || e != api.OK {
		t.Fatal(at, e)
	}
	l.Flush(70)
	if s, _ := d.Read(1); s != sectorOf(1, "\x02\x00ab\x01\x00c\x03\x00def\x02\x00gh\x01\x00z") {
		t.Fatalf("%x", s)
	}
}

func TestNil(t *testing.T) { // P7.1
	var l *wal.Log
	if at, e := l.Append("a"); at != 0 || e != api.ErrArg {
		t.Fatal(at, e)
	}
	if s, e := l.Read(54); s != "" || e != api.ErrArg {
		t.Fatal(s, e)
	}
	if l.Flush(54) != api.ErrArg || l.Cut(54) != api.ErrArg || l.Room() != 0 {
		t.Fatal()
	}
	span(t, l, 0, 0, 0)
}

// fill writes sectors into a ring that begins at 0, as a test likes them.
func fill(d *disk.Disk, l map[int]string) {
	for i := range 128 {
		s, ok := l[i]
		if !ok {
			s = blank
		}
		d.Write(i, s)
	}
	d.Barrier()
}

func TestOpen(t *testing.T) { // P7.1: what is read, what is wiped
	rec := func(s string) string { return num(len(s), 2) + s }
	full := rec(strings.Repeat("a", 30)) + rec(strings.Repeat("b", 100)) + rec("c") // 32, 102, 3
	s1, s2, s3 := full[:54], full[54:108], full[108:]
	a, b, c := api.Entry{At: 54, Bytes: strings.Repeat("a", 30)}, api.Entry{At: 86, Bytes: strings.Repeat("b", 100)}, api.Entry{At: 188, Bytes: "c"}
	junk := strings.Repeat("j", 64)
	long := num(3, 8) + num(55, 2) + s2
	for _, x := range []struct {
		name  string
		ring  map[int]string
		start int
		es    []api.Entry
		end   int
		after map[int]string
	}{
		{"nothing", nil, 54, nil, 54, nil},
		{"junk alone", map[int]string{0: junk, 5: junk, 127: junk}, 54, nil, 54, nil},
		{"nothing, within a sector", map[int]string{3: junk}, 60, nil, 60, map[int]string{1: sectorOf(1, "\x00\x00\x00\x00\x00\x00")}},
		{"too few bytes ahead of start", map[int]string{1: sectorOf(1, "xyz")}, 60, nil, 60, map[int]string{1: sectorOf(1, "xyz\x00\x00\x00")}},
		{"all", map[int]string{1: sectorOf(1, s1), 2: sectorOf(2, s2), 3: sectorOf(3, s3)}, 54, []api.Entry{a, b, c}, 191, map[int]string{1: sectorOf(1, s1), 2: sectorOf(2, s2), 3: sectorOf(3, s3)}},
		{"from the second", map[int]string{1: sectorOf(1, s1), 2: sectorOf(2, s2), 3: sectorOf(3, s3)}, 86, []api.Entry{b, c}, 191, map[int]string{1: sectorOf(1, s1), 2: sectorOf(2, s2), 3: sectorOf(3, s3)}},
		{"from the third", map[int]string{1: sectorOf(1, s1), 2: sectorOf(2, s2), 3: sectorOf(3, s3)}, 188, []api.Entry{c}, 191, map[int]string{3: sectorOf(3, s3)}},
		{"junk behind a sector's bytes", map[int]string{1: sectorOf(1, s1), 2: sectorOf(2, s2), 3: sectorOf(3, s3)[:63] + "j"}, 188, []api.Entry{c}, 191, map[int]string{3: sectorOf(3, s3)}},
		{"the last one short", map[int]string{1: sectorOf(1, s1), 2: sectorOf(2, s2), 3: sectorOf(3, s3[:28])}, 54, []api.Entry{a, b}, 188, map[int]string{1: sectorOf(1, s1), 2: sectorOf(2, s2), 3: sectorOf(3, s3[:26])}},
		{"a length alone", map[int]string{1: sectorOf(1, s1), 2: sectorOf(2, s2), 3: sectorOf(3, s3[:27])}, 54, []api.Entry{a, b}, 188, map[int]string{1: sectorOf(1, s1), 2: sectorOf(2, s2), 3: sectorOf(3, s3[:26])}},
		{"a length 0", map[int]string{1: sectorOf(1, s1), 2: sectorOf(2, s2), 3: sectorOf(3, s3[:26]+"\x00\x00"+s3[26:])}, 54, []api.Entry{a, b}, 188, map[int]string{1: sectorOf(1, s1), 2: sectorOf(2, s2), 3: sectorOf(3, s3[:26])}},
		{"the third is missing", map[int]string{1: sectorOf(1, s1), 2: sectorOf(2, s2)}, 54, []api.Entry{a}, 86, map[int]string{1: sectorOf(1, s1[:32])}},
		{"the second is missing", map[int]string{1: sectorOf(1, s1), 3: sectorOf(3, s3)}, 54, []api.Entry{a}, 86, map[int]string{1: sectorOf(1, s1[:32])}},
		{"the second is short", map[int]string{1: sectorOf(1, s1), 2: sectorOf(2, s2[:53]), 3: sectorOf(3, s3)}, 54, []api.Entry{a}, 86, map[int]string{1: sectorOf(1, s1[:32])}},
		{"the second has another number", map[int]string{1: sectorOf(1, s1), 2: sectorOf(130, s2), 3: sectorOf(3, s3)}, 54, []api.Entry{a}, 86, map[int]string{1: sectorOf(1, s1[:32])}},
		{"the second tells too much", map[int]string{1: sectorOf(1, s1), 2: long, 3: sectorOf(3, s3)}, 54, []api.Entry{a}, 86, map[int]string{1: sectorOf(1, s1[:32])}},
		{"behind one that tells too much nothing is read", map[int]string{1: sectorOf(1, rec(strings.Repeat("r", 52))), 2: long, 3: sectorOf(3, rec("c"))}, 54, []api.Entry{{At: 54, Bytes: strings.Repeat("r", 52)}}, 108, map[int]string{1: sectorOf(1, rec(strings.Repeat("r", 52)))}},
		{"the first is another lap's", map[int]string{1: sectorOf(129, s1), 2: sectorOf(2, s2)}, 54, nil, 54, nil},
		{"the next lap", map[int]string{1: sectorOf(129, "\x01\x00q"), 0: sectorOf(128, "\x00\x00"+rec(strings.Repeat("p", 50))), 7: junk}, 54*128 + 2, []api.Entry{{At: 54*128 + 2, Bytes: strings.Repeat("p", 50)}, {At: 54 * 129, Bytes: "q"}}, 54*129 + 3, map[int]string{1: sectorOf(129, "\x01\x00q"), 0: sectorOf(128, "\x00\x00"+rec(strings.Repeat("p", 50)))}},
	} {
		d := device(t, 128)
		fill(d, x.ring)
		l, es, e := wal.Open(d, 0, 128, x.start)
		if e != api.OK || !slices.Equal(es, x.es) {
			t.Fatalf("%s: %v, %d", x.name, es, e)
		}
		span(t, l, x.start, x.end, x.end)
		if l.Room() != 54*128-(x.end-x.start/54*54) {
			t.Fatal(x.name, l.Room())
		}
		want := make([]string, 128)
		for i := range want {
			want[i] = blank
			if s, ok := x.after[i]; ok {
				want[i] = s
			}
		}
		if got := dump(d, 0, 128); !slices.Equal(got, want) || d.Pending() != 0 {
			for i := range got {
				if got[i] != want[i] {
					t.Fatalf("%s: sector %d: %x, not %x", x.name, i, got[i], want[i])
				}
			}
		}
		if at, e := l.Append("next"); at != x.end || e != api.OK {
			t.Fatal(x.name, at, e)
		}
	}
}

func TestWipeWritesOnlyWhatIsWrong(t *testing.T) { // P7.1
	d := device(t, 128)
	l, _ := wal.Create(d, 0, 128)
	l.Append("ab")
	l.Flush(54)
	d.Fuel(1) // the barrier alone
	if _, es, e := wal.Open(d, 0, 128, 54); e != api.OK || len(es) != 1 {
		t.Fatal(e)
	}
	d = d.Crash(nil)
	d.Write(9, strings.Repeat("j", 64))
	d.Barrier()
	d.Fuel(1) // one write, no barrier
	if l, es, e := wal.Open(d, 0, 128, 54); l != nil || es != nil || e != api.ErrDown {
		t.Fatal(e)
	}
	d = d.Crash(nil)
	d.Fuel(2)
	if _, es, e := wal.Open(d, 0, 128, 54); e != api.OK || len(es) != 1 {
		t.Fatal(e)
	}
}

// ringModel: what the ring holds behind flushes, and the records.
type ringModel struct {
	start, end, firm int
	recs             []api.Entry
	stream           []byte // from 54 on
	ring             [128]string
}

func (m *ringModel) flush() {
	for k := m.firm / 54; k*54 < m.end; k++ {
		m.ring[k%128] = sectorOf(k, string(m.stream[(k-1)*54:min(k*54, len(m.stream))]))
	}
	m.firm = m.end
}

func (m *ringModel) has(at int) bool {
	return slices.ContainsFunc(m.recs, func(e api.Entry) bool { return e.At == at })
}

func TestEveryOrder(t *testing.T) { // P7.1
	seed := uint64(11)
	next := func(n int) int {
		seed = seed*6364136223846793005 + 1442695040888963407
		return int(seed>>33) % n
	}
	d := device(t, 131)
	l, _ := wal.Create(d, 3, 128)
	m := &ringModel{start: 54, end: 54, firm: 54}
	for i := range m.ring {
		m.ring[i] = blank
	}
	full := 0
	for k := range 6000 {
		switch next(5) {
		case 0, 1:
			rec := strings.Repeat(string([]byte{byte(next(256))}), next(200)+1)
			if next(20) == 0 {
				rec = strings.Repeat("x", next(7000)+1)
			}
			room := 54*128 - (m.end - m.start/54*54)
			at, e := l.Append(rec)
			if len(rec)+2 > room {
				if at != 0 || e != api.ErrFull {
					t.Fatal(k, at, e)
				}
				full++
				break
			}
			if at != m.end || e != api.OK {
				t.Fatal(k, at, e)
			}
			m.recs = append(m.recs, api.Entry{At: at, Bytes: rec})
			m.stream = append(m.stream, num(len(rec), 2)+rec...)
			m.end += 2 + len(rec)
		case 2:
			at := m.end - 5 + next(10)
			if at >= m.firm {
				m.flush()
			}
			if e := l.Flush(at); e != api.OK {
				t.Fatal(k, e)
			}
		case 3:
			at := m.end
			if len(m.recs) > 0 && next(5) > 0 {
				at = m.recs[next(len(m.recs))].At
			}
			if next(6) == 0 {
				at++
			}
			ok := (at == m.end || m.has(at)) && at <= m.firm
			if e := l.Cut(at); (e == api.OK) != ok || !ok && e != api.ErrArg {
				t.Fatal(k, at, e)
			}
			if ok {
				m.start = at
				m.recs = slices.DeleteFunc(m.recs, func(e api.Entry) bool { return e.At < at })
			}
		case 4:
			at := m.start + next(m.end-m.start+3) - 1
			if len(m.recs) > 0 && next(2) == 0 {
				at = m.recs[next(len(m.recs))].At
			}
			s, e := l.Read(at)
			i := slices.IndexFunc(m.recs, func(e api.Entry) bool { return e.At == at })
			if i >= 0 && (s != m.recs[i].Bytes || e != api.OK) || i < 0 && (s != "" || e != api.ErrNone) {
				t.Fatal(k, at, e)
			}
		}
		span(t, l, m.start, m.end, m.firm)
		if l.Room() != 54*128-(m.end-m.start/54*54) {
			t.Fatal(k, l.Room())
		}
		if k%16 == 0 && !slices.Equal(dump(d, 3, 128), m.ring[:]) {
			t.Fatal(k, "the ring is otherwise")
		}
	}
	if full == 0 || m.end < 54*128*5 {
		t.Fatal("the ring was never full", full, m.end)
	}
}

// crashed: some mixture of what no barrier has followed.
func crashed(d *disk.Disk, next func(int) int) *disk.Disk {
	keep := make([]bool, d.Pending())
	way := next(3)
	for i := range keep {
		keep[i] = way == 0 || way == 1 && next(2) == 0
	}
	return d.Crash(keep)
}

func TestCrashes(t *testing.T) { // P7.2
	seed := uint64(23)
	next := func(n int) int {
		seed = seed*6364136223846793005 + 1442695040888963407
		return int(seed>>33) % n
	}
	d := device(t, 128)
	l, _ := wal.Create(d, 0, 128)
	var recs []api.Entry
	start, firm := 54, 54
	for round := range 1500 {
		d.Fuel(next(40))
		for range next(12) + 1 {
			if next(4) == 0 {
				s, _, f := l.Span()
				start, firm = s, f
				if l.Flush(1<<40) != api.OK {
					break
				}
				_, _, firm = l.Span()
				continue
			}
			rec := strings.Repeat(string([]byte{byte(round), byte(next(256))}), next(80)+1)
			if at, e := l.Append(rec); e == api.OK {
				recs = append(recs, api.Entry{At: at, Bytes: rec})
			} else if len(recs) > 0 {
				at := recs[next(len(recs))].At
				if l.Cut(at) == api.OK {
					start = at
					recs = slices.DeleteFunc(recs, func(e api.Entry) bool { return e.At < at })
				}
			}
		}
		for try := 0; ; try++ { // opened again and again, as often as the device gives out
			d = crashed(d, next)
			if try < 3 {
				d.Fuel(next(20))
			}
			m, es, e := wal.Open(d, 0, 128, start)
			if e == api.ErrDown && try < 3 {
				continue
			}
			if e != api.OK {
				t.Fatal(round, e)
			}
			if len(es) > len(recs) || !slices.Equal(es, recs[:len(es)]) {
				t.Fatal(round, "no beginning of what was appended")
			}
			if len(es) < len(recs) && recs[len(es)].At < firm {
				t.Fatal(round, "a firm record is gone", recs[len(es)].At, firm)
			}
			_, _, firm = m.Span() // these stay
			recs, l = recs[:len(es)], m
			d.Fuel(-1)
			if next(3) > 0 {
				break
			}
		}
	}
}
