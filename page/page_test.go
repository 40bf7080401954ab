package page_test

import (
	"math"
	"strings"
	"testing"

	"jetty/api"
	"jetty/page"
)

// wantBytes: a right page's bytes, written down place by place.
func wantBytes(p api.Page) string {
	b := make([]byte, api.BodySize)
	b[0], b[1] = byte(p.Kind), byte(p.Level)
	b[2], b[3] = byte(p.Store), byte(p.Store>>8)
	b[4], b[5] = byte(p.Next), byte(p.Next>>8)
	for i, c := range p.Cells {
		at := 8 + 36*i
		b[at], b[at+1] = byte(c.State), byte(len(c.Data))
		copy(b[at+2:], c.Data)
	}
	return string(b)
}

// rightPages: pages at all edges.
func rightPages() []api.Page {
	l := []api.Page{{}}
	for kind := range 5 {
		l = append(l, api.Page{Kind: kind})
	}
	for _, n := range []int{0, 1, 254, 255} {
		l = append(l, api.Page{Level: n})
	}
	for _, n := range []int{0, 1, 255, 256, 258, 65534, 65535} {
		l = append(l, api.Page{Store: n})
	}
	for _, n := range []int{0, 1, 255, 256, api.MaxPages - 1} {
		l = append(l, api.Page{Next: n})
	}
	for i := range api.MaxCells {
		for _, state := range []int{api.Live, api.Ghost} {
			for _, n := range []int{0, 1, 2, 33, 34} {
				for _, b := range []string{"\x00", "a", "\xff"} {
					p := api.Page{Kind: 3, Level: 9, Store: 513, Next: 770}
					p.Cells[i] = api.Cell{State: state, Data: strings.Repeat(b, n)}
					l = append(l, p)
				}
			}
		}
	}
	full := api.Page{Kind: 4, Level: 255, Store: 65535, Next: 1023}
	for i := range full.Cells {
		full.Cells[i] = api.Cell{State: 1 + i%2, Data: strings.Repeat(string([]byte{byte(i + 1)}), 34-i)}
	}
	return append(l, full)
}

func wrongPages() []api.Page {
	var l []api.Page
	for _, n := range []int{math.MinInt, -1, 5, 6, 256, math.MaxInt} {
		l = append(l, api.Page{Kind: n})
	}
	for _, n := range []int{math.MinInt, -1, 256, 257, 1 << 32, math.MaxInt} {
		l = append(l, api.Page{Level: n})
	}
	for _, n := range []int{math.MinInt, -1, 65536, 1 << 32, math.MaxInt} {
		l = append(l, api.Page{Store: n})
	}
	for _, n := range []int{math.MinInt, -1, api.MaxPages, 1 << 32, math.MaxInt} {
		l = append(l, api.Page{Next: n})
	}
	for i := range api.MaxCells {
		for _, c := range []api.Cell{
			{State: api.Free, Data: "a"}, {State: api.Free, Data: "\x00"},
			{State: -1}, {State: 3}, {State: 256}, {State: math.MinInt}, {State: math.MaxInt}, {State: 257, Data: "a"},
			{State: api.Live, Data: strings.Repeat("a", 35)}, {State: api.Ghost, Data: strings.Repeat("a", 35)},
			{State: api.Live, Data: strings.Repeat("a", 290)},
		} {
			var p api.Page
			p.Cells[i] = c
			l = append(l, p)
		}
	}
	return l
}

func TestRightPages(t *testing.T) { // P4.1, P4.2
	for _, p := range rightPages() {
		if e := page.Check(p); e != api.OK {
			t.Fatalf("%+v: %d", p, e)
		}
		s, e := page.Encode(p)
		if e != api.OK || s != wantBytes(p) {
			t.Fatalf("%+v: %x, %d", p, s, e)
		}
		q, e := page.Decode(s)
		if e != api.OK || q != p {
			t.Fatalf("%+v: back %+v, %d", p, q, e)
		}
	}
}

func TestWrongPages(t *testing.T) { // P4.1
	for _, p := range wrongPages() {
		if e := page.Check(p); e != api.ErrArg {
			t.Fatalf("%+v: %d", p, e)
		}
		if s, e := page.Encode(p); e != api.ErrArg || s != "" {
			t.Fatalf("%+v: %q, %d", p, s, e)
		}
	}
}

// known: do a right page's bytes stand here? Looked at byte by byte.
func known(s string) bool {
	if len(s) != api.BodySize || s[0] > 4 || s[6] != 0 || s[7] != 0 || int(s[4])+256*int(s[5]) >= api.MaxPages {
		return false
	}
	for i := range api.MaxCells {
		c := s[8+36*i : 8+36*i+36]
		if c[0] > 2 || c[1] > 34 || c[0] == 0 && c[1] > 0 || strings.Trim(c[2+c[1]:], "\x00") != "" {
			return false
		}
	}
	return true
}

func checkBytes(t *testing.T, s string) {
	t.Helper()
	p, e := page.Decode(s)
	if !known(s) {
		if e != api.ErrForm || p != (api.Page{}) {
			t.Fatalf("%x: %+v, %d", s, p, e)
		}
		return
	}
	if e != api.OK {
		t.Fatalf("%x: %d", s, e)
	}
	if back, e := page.Encode(p); e != api.OK || back != s {
		t.Fatalf("%x: back %x, %d", s, back, e)
	}
}

func TestAllBytes(t *testing.T) { // P4.1, P4.2: each byte of some pages with each value
	full := wantBytes(rightPages()[len(rightPages())-1])
	for _, s := range []string{wantBytes(api.Page{}), full, wantBytes(api.Page{Kind: 3, Store: 258, Next: 5, Cells: [6]api.Cell{{State: 1, Data: "ab"}, {State: 2, Data: ""}}})} {
		for i := range len(s) {
			for v := range 256 {
				b := []byte(s)
				b[i] = byte(v)
				checkBytes(t, string(b))
			}
		}
	}
	for _, n := range []int{0, 1, 8, 44, 223, 225, 448} {
		checkBytes(t, strings.Repeat("\x00", n))
	}
	checkBytes(t, full+"\x00")
	checkBytes(t, full[1:])
	checkBytes(t, full[:223])
	b := []byte(strings.Repeat("\x00", api.BodySize))
	b[4], b[5] = 0, 4
	checkBytes(t, string(b)) // Next 1024
	b[5] = 3
	checkBytes(t, string(b))
	b[7] = 1
	checkBytes(t, string(b))
}

func TestExamples(t *testing.T) { // P4.1
	if s, e := page.Encode(api.Page{}); s != strings.Repeat("\x00", 224) || e != api.OK {
		t.Fatal(e)
	}
	p := api.Page{Kind: 3, Store: 258, Next: 5}
	p.Cells[0] = api.Cell{State: api.Live, Data: "ab"}
	if s, e := page.Encode(p); s != "\x03\x00\x02\x01\x05\x00\x00\x00\x01\x02ab"+strings.Repeat("\x00", 212) || e != api.OK {
		t.Fatalf("%x %d", s, e)
	}
}

func TestRoom(t *testing.T) { // P4.1
	for mask := range 1 << api.MaxCells {
		var p api.Page
		want, ok := 0, false
		for i := range p.Cells {
			if mask>>i&1 == 1 {
				p.Cells[i] = api.Cell{State: 1 + i%2}
			} else if !ok {
				want, ok = i, true
			}
		}
		if i, b := page.Room(p); i != want || b != ok {
			t.Fatal(mask, i, b)
		}
	}
	var p api.Page
	for i := range p.Cells {
		p.Cells[i].State = -1
	}
	if i, b := page.Room(p); i != 0 || b {
		t.Fatal(i, b)
	}
	p.Cells[4] = api.Cell{State: api.Free, Data: "a"} // wrong, but Free
	if i, b := page.Room(p); i != 4 || !b {
		t.Fatal(i, b)
	}
}
