package octet_test

import (
	"math"
	"strings"
	"testing"

	"jetty/api"
	"jetty/octet"
)

// wantNum is the number's bytes, reckoned by division.
func wantNum(n uint64, width int) (string, api.Errno) {
	if width < 1 || width > 8 {
		return "", api.ErrArg
	}
	var b []byte
	for len(b) < width {
		b = append(b, byte(n%256))
		n /= 256
	}
	if n > 0 {
		return "", api.ErrArg
	}
	return string(b), api.OK
}

func numbers() []uint64 {
	l := []uint64{0, 1, 2, 127, 128, 255, 256, 257, 258, 65535, 65536, math.MaxInt64, 1 << 63, math.MaxUint64, 0x0102030405060708}
	for k := range 64 {
		l = append(l, uint64(1)<<k, uint64(1)<<k-1, uint64(1)<<k+1)
	}
	return l
}

func TestNum(t *testing.T) { // P1.1
	for _, n := range numbers() {
		for _, width := range []int{math.MinInt, -1, 0, 1, 2, 3, 4, 5, 6, 7, 8, 9, 16, 64, math.MaxInt} {
			s, e := octet.Num(n, width)
			ws, we := wantNum(n, width)
			if s != ws || e != we {
				t.Fatalf("Num(%d, %d): %x, %d, not %x, %d", n, width, s, e, ws, we)
			}
		}
	}
}

func TestVal(t *testing.T) { // P1.1
	for _, c := range []struct {
		s string
		n uint64
		e api.Errno
	}{
		{"", 0, api.ErrArg},
		{"\x00", 0, api.OK},
		{"\xff", 255, api.OK},
		{"\x02\x01", 258, api.OK},
		{"\x00\x00\x80", 1 << 23, api.OK},
		{"\x00\x00\x00\x80", 1 << 31, api.OK},
		{"\x01\x02\x03\x04\x05\x06\x07\x08", 0x0807060504030201, api.OK},
		{"\xff\xff\xff\xff\xff\xff\xff\xff", math.MaxUint64, api.OK},
		{"\x00\x00\x00\x00\x00\x00\x00\x00\x00", 0, api.ErrArg},
		{strings.Repeat("a", 300), 0, api.ErrArg},
	} {
		if n, e := octet.Val(c.s); n != c.n || e != c.e {
			t.Fatalf("Val(%x): %d, %d", c.s, n, e)
		}
	}
}

func TestThereAndBack(t *testing.T) { // P1.2
	for _, n := range numbers() {
		for width := 1; width <= 8; width++ {
			s, e := octet.Num(n, width)
			if e != api.OK {
				continue
			}
			if len(s) != width {
				t.Fatalf("Num(%d, %d) has %d bytes", n, width, len(s))
			}
			if m, e := octet.Val(s); m != n || e != api.OK {
				t.Fatalf("Val of Num(%d, %d): %d, %d", n, width, m, e)
			}
			r := octet.Read(s)
			if m := r.Num(width); m != n || r.Bad() || r.Left() != 0 {
				t.Fatalf("read of Num(%d, %d): %d", n, width, m)
			}
		}
	}
	for n := range 256 {
		s := strings.Repeat("\xfe", n)
		x, e := octet.Text(s)
		if e != api.OK || x != string([]byte{byte(n)})+s {
			t.Fatalf("Text of %d bytes: %x, %d", n, x, e)
		}
		r := octet.Read(x)
		if y := r.Text(); y != s || r.Left() != 0 || r.Bad() {
			t.Fatalf("read of Text of %d bytes: %x, %d, %v", n, y, r.Left(), r.Bad())
		}
	}
}

func TestText(t *testing.T) { // P1.1
	for _, n := range []int{256, 257, 511, 512, 70000} {
		if s, e := octet.Text(strings.Repeat("a", n)); s != "" || e != api.ErrLong {
			t.Fatalf("Text of %d bytes: %d bytes, %d", n, len(s), e)
		}
	}
	if s, e := octet.Text(""); s != "\x00" || e != api.OK {
		t.Fatal(s, e)
	}
	if s, e := octet.Text("ab"); s != "\x02ab" || e != api.OK {
		t.Fatal(s, e)
	}
}

func TestReaderExamples(t *testing.T) { // P1.1
	r := octet.Read("\x02a")
	if r.Bad() || r.Left() != 2 {
		t.Fatal("a new reader is bad")
	}
	if s := r.Text(); s != "" || !r.Bad() || r.Left() != 0 {
		t.Fatal(s)
	}
	r = octet.Read("")
	if r == nil || r.Bad() || r.Left() != 0 || r.Bytes(0) != "" || r.Bad() {
		t.Fatal("a reader of nothing")
	}
	if r.Text() != "" || !r.Bad() {
		t.Fatal("a text of nothing")
	}
	r = octet.Read("\x00\x01b")
	if r.Text() != "" || r.Bad() || r.Left() != 2 || r.Text() != "b" || r.Bad() || r.Left() != 0 {
		t.Fatal("an empty text")
	}
	for _, width := range []int{math.MinInt, -1, 0, 9, math.MaxInt} {
		r = octet.Read(strings.Repeat("a", 20))
		if r.Num(width) != 0 || !r.Bad() || r.Left() != 0 || r.Bytes(1) != "" || r.Num(1) != 0 || r.Text() != "" || r.Bytes(0) != "" || !r.Bad() {
			t.Fatal(width)
		}
	}
	for _, n := range []int{math.MinInt, -1, 21, math.MaxInt} {
		r = octet.Read(strings.Repeat("a", 20))
		if r.Bytes(n) != "" || !r.Bad() || r.Left() != 0 || r.Bytes(1) != "" {
			t.Fatal(n)
		}
	}
	r = octet.Read("abc")
	if r.Num(4) != 0 || !r.Bad() || r.Num(1) != 0 {
		t.Fatal("a number of more than there is")
	}
	r = octet.Read("abc")
	if r.Bytes(3) != "abc" || r.Bad() || r.Left() != 0 {
		t.Fatal("all bytes")
	}
	r = octet.Read(strings.Repeat("\x00", 300))
	if r.Bytes(300) != strings.Repeat("\x00", 300) || r.Bad() {
		t.Fatal("many bytes")
	}
}

func TestNilReader(t *testing.T) { // P1.1
	var r *octet.Reader
	if !r.Bad() || r.Left() != 0 || r.Bytes(0) != "" || r.Bytes(1) != "" || r.Num(1) != 0 || r.Num(9) != 0 || r.Text() != "" {
		t.Fatal("a nil reader is bad")
	}
}

// model is a reader by the words, of which each step is looked up anew.
type model struct {
	s   string
	at  int
	bad bool
}

func (m *model) bytes(n int) string {
	if m.bad || n < 0 || n > len(m.s)-m.at {
		m.bad = true
		return ""
	}
	m.at += n
	return m.s[m.at-n : m.at]
}

func (m *model) num(width int) uint64 {
	if width < 1 || width > 8 {
		m.bad = true
	}
	var n uint64
	s := m.bytes(width)
	for i := len(s) - 1; i >= 0; i-- {
		n = n*256 + uint64(s[i])
	}
	return n
}

func (m *model) text() string {
	n := m.num(1)
	if m.bad {
		return ""
	}
	return m.bytes(int(n))
}

func TestReaderInEveryOrder(t *testing.T) { // P1.1
	seed := uint64(7)
	next := func(n int) int {
		seed = seed*6364136223846793005 + 1442695040888963407
		return int(seed>>33) % n
	}
	for range 20000 {
		b := make([]byte, next(24))
		for i := range b {
			b[i] = byte(next(6))
			if next(8) == 0 {
				b[i] = byte(next(256))
			}
		}
		r, m := octet.Read(string(b)), &model{s: string(b)}
		for range 8 {
			n := next(11) - 1
			same := true
			switch next(3) {
			case 0:
				same = r.Bytes(n) == m.bytes(n)
			case 1:
				same = r.Num(n) == m.num(n)
			case 2:
				same = r.Text() == m.text()
			}
			left := len(b) - m.at
			if m.bad {
				left = 0
			}
			if !same || r.Bad() != m.bad || r.Left() != left {
				t.Fatalf("%x", b)
			}
		}
	}
}
