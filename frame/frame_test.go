package frame_test

import (
	"math"
	"strings"
	"testing"

	"jetty/api"
	"jetty/frame"
)

// bodies: bytes that tell each place of a page.
func bodies() []string {
	b := make([]byte, api.BodySize)
	for i := range b {
		b[i] = byte(i)
	}
	return []string{strings.Repeat("\x00", api.BodySize), strings.Repeat("a", api.BodySize), strings.Repeat("\xff", api.BodySize), string(b)}
}

var stamps = []uint64{0, 1, 7, 255, 256, 54, 1 << 40, math.MaxInt64, 1 << 63, math.MaxUint64, 0x0807060504030201}

func bytesOf(n uint64) string {
	b := make([]byte, 8)
	for i := range b {
		b[i] = byte(n >> (8 * i))
	}
	return string(b)
}

func TestSeal(t *testing.T) { // P3.1
	for _, body := range bodies() {
		for _, stamp := range stamps {
			s, e := frame.Seal(body, stamp)
			if e != api.OK {
				t.Fatal(e)
			}
			for i, x := range s {
				if x != body[56*i:56*i+56]+bytesOf(stamp) {
					t.Fatalf("sector %d of the stamp %d: %x", i, stamp, x)
				}
			}
		}
	}
	for _, n := range []int{0, 1, 223, 225, 256, 448} {
		if s, e := frame.Seal(strings.Repeat("a", n), 7); e != api.ErrArg || s != [api.PageSectors]string{} {
			t.Fatal(n, e, s)
		}
	}
}

func TestThereAndBack(t *testing.T) { // P3.2
	for _, body := range bodies() {
		for _, stamp := range stamps {
			s, _ := frame.Seal(body, stamp)
			b, n, e := frame.Open(s)
			if b != body || n != stamp || e != api.OK {
				t.Fatalf("%d: %d, %d", stamp, n, e)
			}
		}
	}
}

func TestTorn(t *testing.T) { // P3.2: every mixture of sectors of two pages
	l := bodies()
	for _, one := range stamps {
		for _, two := range stamps {
			a, _ := frame.Seal(l[1], one)
			b, _ := frame.Seal(l[3], two)
			for mask := 1; mask < 1<<api.PageSectors-1; mask++ {
				m, whole := a, ""
				for i := range m {
					if mask>>i&1 == 1 {
						m[i] = b[i]
					}
					whole += m[i][:56]
				}
				body, n, e := frame.Open(m)
				if one != two && (e != api.ErrTorn || body != "" || n != 0) {
					t.Fatal(one, two, mask, e)
				}
				if one == two && (e != api.OK || body != whole || n != one) {
					t.Fatal(one, mask, e)
				}
			}
		}
	}
	for k := range 64 { // each bit of a stamp counts
		a, _ := frame.Seal(l[0], 0)
		b, _ := frame.Seal(l[0], 1<<k)
		for i := range a {
			m := a
			m[i] = b[i]
			if _, _, e := frame.Open(m); e != api.ErrTorn {
				t.Fatal(k, i, e)
			}
		}
	}
}

func TestWrongSectors(t *testing.T) { // P3.1: looked at in their order
	good, _ := frame.Seal(bodies()[1], 7)
	older, _ := frame.Seal(bodies()[1], 6)
	for i := range good {
		for _, n := range []int{0, 1, 55, 56, 63, 65, 128} {
			m := good
			m[i] = strings.Repeat("a", n)
			if b, s, e := frame.Open(m); b != "" || s != 0 || e != api.ErrArg {
				t.Fatal(i, n, e)
			}
			for j := 1; j < len(m); j++ {
				if j == i {
					continue
				}
				x := m
				x[j] = older[j]
				want := api.ErrArg
				if j < i {
					want = api.ErrTorn
				}
				if _, _, e := frame.Open(x); e != want {
					t.Fatal(i, j, n, e, want)
				}
			}
		}
	}
	if _, _, e := frame.Open([api.PageSectors]string{}); e != api.ErrArg {
		t.Fatal(e)
	}
}
