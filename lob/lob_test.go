package lob_test

import (
	"math"
	"slices"
	"sort"
	"strings"
	"testing"

	"jetty/api"
	"jetty/lob"
	"jetty/space"
	"jetty/stage"
	"jetty/tree"
)

// volume: a new one, store 1 for objects.
func volume(t *testing.T, pages int) *stage.Stage {
	t.Helper()
	m, e := stage.Memory(pages)
	if e != api.OK {
		t.Fatal(e)
	}
	s := stage.New(m)
	if e := space.Format(s, pages); e != api.OK {
		t.Fatal(e)
	}
	if n, e := space.Make(s, api.Object); n != 1 || e != api.OK {
		t.Fatal(n, e)
	}
	return s
}

// do does steps by tree's calls.
func do(t *testing.T, s *stage.Stage, l []lob.Step, e api.Errno) {
	t.Helper()
	if e != api.OK {
		t.Fatal(e)
	}
	for _, x := range l {
		switch x.Kind {
		case api.OpPut:
			_, e = tree.Put(s, 1, x.Key, x.Val, nil)
		case api.OpSet:
			_, e = tree.Set(s, 1, x.Key, x.Val)
		case api.OpCut:
			_, e = tree.Cut(s, 1, x.Key)
		default:
			t.Fatal(x)
		}
		if e != api.OK {
			t.Fatal(x, e)
		}
	}
}

func steps(t *testing.T, l []lob.Step, e api.Errno, want ...lob.Step) {
	t.Helper()
	if e != api.OK || !slices.Equal(l, want) {
		t.Fatal(l, e, want)
	}
}

// fill makes an object of some bytes.
func fill(t *testing.T, s *stage.Stage, num int, data string) {
	t.Helper()
	l, e := lob.New(s, 1, num)
	do(t, s, l, e)
	for at := 0; at < len(data); at += 64 {
		l, e := lob.Write(s, 1, num, at, data[at:min(at+64, len(data))])
		do(t, s, l, e)
	}
}

func text(n int) string {
	b := make([]byte, n)
	for i := range b {
		b[i] = byte(i*7 + i/256)
	}
	return string(b)
}

func TestKey(t *testing.T) { // P17.1
	for _, c := range []struct {
		num, piece int
		want       string
	}{
		{258, 1, "\x01\x02\x00\x01"}, {0, 0, "\x00\x00\x00\x00"}, {999, 255, "\x03\xe7\x00\xff"}, {3, 256, "\x00\x03\x01\x00"},
		{65536 + 5, 65536 + 7, "\x00\x05\x00\x07"}, {-1, -2, "\xff\xff\xff\xfe"}, {math.MaxInt, math.MinInt, "\xff\xff\x00\x00"},
	} {
		if k := lob.Key(c.num, c.piece); k != c.want {
			t.Fatalf("%x", k)
		}
	}
}

func TestExample(t *testing.T) { // P17.1
	s := volume(t, 100)
	key0, key1 := "\x00\x03\x00\x00", "\x00\x03\x00\x01"
	l, e := lob.New(s, 1, 3)
	steps(t, l, e, lob.Step{Kind: api.OpPut, Key: key0})
	do(t, s, l, e)
	if n, e := lob.Len(s, 1, 3); n != 0 || e != api.OK {
		t.Fatal(n, e)
	}
	l, e = lob.Write(s, 1, 3, 0, "0123456789abcdefxy")
	steps(t, l, e, lob.Step{Kind: api.OpSet, Key: key0, Val: "0123456789abcdef"}, lob.Step{Kind: api.OpPut, Key: key1, Val: "xy"})
	do(t, s, l, e)
	if n, e := lob.Len(s, 1, 3); n != 18 || e != api.OK {
		t.Fatal(n, e)
	}
	l, e = lob.Write(s, 1, 3, 14, "ZZZZ")
	steps(t, l, e, lob.Step{Kind: api.OpSet, Key: key0, Val: "0123456789abcdZZ"}, lob.Step{Kind: api.OpSet, Key: key1, Val: "ZZ"})
	l, e = lob.Truncate(s, 1, 3, 16)
	steps(t, l, e, lob.Step{Kind: api.OpCut, Key: key1})
	if v, e := lob.Read(s, 1, 3, 4, 20); v != "" || e != api.ErrArg {
		t.Fatal(v, e)
	}
	l, e = lob.Write(s, 1, 3, 2, "23")
	steps(t, l, e)
	l, e = lob.Write(s, 1, 3, 18, "")
	steps(t, l, e)
	l, e = lob.Truncate(s, 1, 3, 18)
	steps(t, l, e)
	l, e = lob.Truncate(s, 1, 3, 0)
	steps(t, l, e, lob.Step{Kind: api.OpSet, Key: key0}, lob.Step{Kind: api.OpCut, Key: key1})
	l, e = lob.Destroy(s, 1, 3)
	steps(t, l, e, lob.Step{Kind: api.OpCut, Key: key0}, lob.Step{Kind: api.OpCut, Key: key1})
	if v, e := lob.Read(s, 1, 3, 0, 18); v != "0123456789abcdefxy" || e != api.OK {
		t.Fatal("the stage was changed", v, e)
	}
	if l, e := lob.List(s, 1); e != api.OK || !slices.Equal(l, []api.Pair{{Id: 3, Val: "0123456789abcdefxy"}}) {
		t.Fatal(l, e)
	}
	if l, e := lob.New(s, 1, 3); l != nil || e != api.ErrThere {
		t.Fatal(l, e)
	}
}

func TestWrongNumbers(t *testing.T) { // P17.1: the number first, then the store, then whether it is there
	s := volume(t, 100)
	fill(t, s, 0, "zero")
	fill(t, s, 999, "last")
	space.Make(s, api.Heap)
	check := func(s *stage.Stage, store, num int, want api.Errno) {
		t.Helper()
		if n, e := lob.Len(s, store, num); n != 0 || e != want {
			t.Fatal(store, num, n, e)
		}
		if v, e := lob.Read(s, store, num, -1, -1); v != "" || e != want {
			t.Fatal(store, num, v, e)
		}
		if l, e := lob.Write(s, store, num, -1, text(70)); l != nil || e != want {
			t.Fatal(store, num, l, e)
		}
		if l, e := lob.Truncate(s, store, num, -1); l != nil || e != want {
			t.Fatal(store, num, l, e)
		}
		if l, e := lob.Destroy(s, store, num); l != nil || e != want {
			t.Fatal(store, num, l, e)
		}
		if want == api.ErrNone {
			return
		}
		if l, e := lob.New(s, store, num); l != nil || e != want {
			t.Fatal(store, num, l, e)
		}
	}
	for _, num := range []int{math.MinInt, -1, 1000, 65536, 65536 + 999, math.MaxInt} {
		check(s, 1, num, api.ErrArg)
		check(s, 9, num, api.ErrArg)
		check(nil, 1, num, api.ErrArg)
	}
	for _, store := range []int{-1, 0, 2, 3, 7} {
		check(s, store, 0, api.ErrStore)
		if l, e := lob.List(s, store); l != nil || e != api.ErrStore {
			t.Fatal(store, l, e)
		}
	}
	check(s, 1, 5, api.ErrNone)
	check(s, 1, 998, api.ErrNone)
	check(nil, 1, 5, api.ErrArg)
	if l, e := lob.List(nil, 1); l != nil || e != api.ErrArg {
		t.Fatal(l, e)
	}
	for _, num := range []int{0, 999} {
		if n, e := lob.Len(s, 1, num); n != 4 || e != api.OK {
			t.Fatal(num, n, e)
		}
	}
}

func TestWrongPlaces(t *testing.T) { // P17.1
	s := volume(t, 400)
	for num, size := range []int{0, 1, 15, 16, 17, 31, 32, 33, 64, 300} {
		data := text(size)
		fill(t, s, num, data)
		for _, at := range []int{math.MinInt, -1, 0, 1, size - 1, size, size + 1, math.MaxInt} {
			for _, n := range []int{math.MinInt, -1, 0, 1, size - 1, size, size + 1, math.MaxInt} {
				v, e := lob.Read(s, 1, num, at, n)
				ok := at >= 0 && at <= size && n >= 0 && n <= size-at
				if ok && (e != api.OK || v != data[at:at+n]) || !ok && (v != "" || e != api.ErrArg) {
					t.Fatal(size, at, n, v, e)
				}
			}
			inside := at >= 0 && at <= size
			if l, e := lob.Write(s, 1, num, at, "x"); (e == api.OK) != inside || !inside && (l != nil || e != api.ErrArg) {
				t.Fatal(size, at, e)
			}
			if l, e := lob.Truncate(s, 1, num, at); (e == api.OK) != inside || !inside && (l != nil || e != api.ErrArg) {
				t.Fatal(size, at, e)
			}
			if l, e := lob.Write(s, 1, num, at, text(65)); l != nil || inside && e != api.ErrLong || !inside && e != api.ErrArg {
				t.Fatal(size, at, e)
			}
			if _, e := lob.Write(s, 1, num, at, text(64)); (e == api.OK) != inside {
				t.Fatal(size, at, e)
			}
		}
	}
}

func TestGreatest(t *testing.T) { // P17.1, P17.2
	s := volume(t, 600)
	data := text(api.MaxObject)
	fill(t, s, 7, data)
	fill(t, s, 8, "neighbour")
	if n, e := lob.Len(s, 1, 7); n != api.MaxObject || e != api.OK {
		t.Fatal(n, e)
	}
	if v, e := lob.Read(s, 1, 7, 0, 4096); v != data || e != api.OK {
		t.Fatal(e)
	}
	for _, c := range []struct {
		at, n int
		e     api.Errno
	}{{4096, 0, api.OK}, {4096, 1, api.ErrLong}, {4095, 1, api.OK}, {4095, 2, api.ErrLong}, {4032, 64, api.OK}, {4033, 64, api.ErrLong}, {4097, 0, api.ErrArg}, {0, 64, api.OK}} {
		if l, e := lob.Write(s, 1, 7, c.at, text(c.n)); e != c.e || e != api.OK && l != nil {
			t.Fatal(c, e)
		}
	}
	l, e := lob.Destroy(s, 1, 7)
	if e != api.OK || len(l) != 256 {
		t.Fatal(len(l), e)
	}
	do(t, s, l, e)
	if _, e := lob.Len(s, 1, 7); e != api.ErrNone {
		t.Fatal(e)
	}
	if l, e := lob.List(s, 1); e != api.OK || !slices.Equal(l, []api.Pair{{Id: 8, Val: "neighbour"}}) {
		t.Fatal(l, e)
	}
	fill(t, s, 7, "again")
	if v, e := lob.Read(s, 1, 7, 0, 5); v != "again" || e != api.OK {
		t.Fatal(v, e)
	}
}

// chunks: bytes cut into pieces, by the words.
func chunks(data string) []string {
	l := []string{""}
	for i := range len(data) {
		if i > 0 && i%16 == 0 {
			l = append(l, "")
		}
		l[len(l)-1] += data[i : i+1]
	}
	return l
}

// wantSteps: from some pieces to others, by the words.
func wantSteps(num int, from, to []string) []lob.Step {
	var l []lob.Step
	for i := 0; i < len(from) || i < len(to); i++ {
		key := string([]byte{byte(num / 256), byte(num % 256), byte(i / 256), byte(i % 256)})
		if i >= len(to) {
			l = append(l, lob.Step{Kind: api.OpCut, Key: key})
		} else if i >= len(from) {
			l = append(l, lob.Step{Kind: api.OpPut, Key: key, Val: to[i]})
		} else if from[i] != to[i] {
			l = append(l, lob.Step{Kind: api.OpSet, Key: key, Val: to[i]})
		}
	}
	return l
}

func TestBytes(t *testing.T) { // P17.1, P17.2
	seed := uint64(53)
	next := func(n int) int {
		seed = seed*6364136223846793005 + 1442695040888963407
		return int(seed>>33) % n
	}
	for round := range 12 {
		s := volume(t, api.MaxPages)
		model := map[int]string{}
		for k := range 250 {
			num := []int{0, 1, 255, 256, 998, 999}[next(6)]
			old, there := model[num]
			from, to := chunks(old), []string(nil)
			if !there {
				from = nil
			}
			var l []lob.Step
			var e api.Errno
			want := api.OK
			if !there {
				want = api.ErrNone
			}
			switch next(8) {
			case 0, 1:
				l, e = lob.New(s, 1, num)
				want = api.OK
				if there {
					want = api.ErrThere
				} else {
					model[num], to = "", chunks("")
				}
			case 2:
				l, e = lob.Destroy(s, 1, num)
				delete(model, num)
			case 3:
				n := next(len(old) + 1)
				l, e = lob.Truncate(s, 1, num, n)
				if there {
					model[num], to = old[:n], chunks(old[:n])
				}
			default:
				at := next(len(old) + 1)
				if next(2) == 0 {
					at = len(old)
				}
				val := strings.Repeat(string([]byte{byte(k), byte(next(3))}), next(33))
				l, e = lob.Write(s, 1, num, at, val)
				if there {
					now := old[:at] + val
					if len(now) < len(old) {
						now += old[len(now):]
					}
					model[num], to = now, chunks(now)
				}
			}
			if e != want {
				t.Fatal(round, k, num, e, want)
			}
			if e == api.OK {
				if !slices.Equal(l, wantSteps(num, from, to)) {
					t.Fatal(round, k, l)
				}
				do(t, s, l, e)
			} else if l != nil {
				t.Fatal(l)
			}
			same(t, s, model)
		}
	}
}

func same(t *testing.T, s *stage.Stage, model map[int]string) {
	t.Helper()
	var want []api.Pair
	for num, data := range model {
		want = append(want, api.Pair{Id: num, Val: data})
		if n, e := lob.Len(s, 1, num); n != len(data) || e != api.OK {
			t.Fatal(num, n, e)
		}
		if v, e := lob.Read(s, 1, num, len(data)/3, len(data)/2); v != data[len(data)/3:len(data)/3+len(data)/2] || e != api.OK {
			t.Fatal(num, e)
		}
	}
	sort.Slice(want, func(i, j int) bool { return want[i].Id < want[j].Id })
	if l, e := lob.List(s, 1); e != api.OK || !slices.Equal(l, want) {
		t.Fatal(l, e)
	}
}

func TestKeysThatAreNone(t *testing.T) { // rule 1: calls end on keys that no steps have made
	s := volume(t, 200)
	for i := range 300 {
		tree.Put(s, 1, strings.Repeat("\x00", i%8)+string([]byte{byte(i), byte(i >> 3)})[:1+i%2], "v", nil)
	}
	for _, key := range []string{"\x00\x00\x00\x00", "\x00\x00\x00\x02", "\xff\xff\xff\xff", "\xff\xff\xff\xff\xff\xff\xff\xff"} {
		tree.Put(s, 1, key, "12345678901234567890", nil)
	}
	lob.List(s, 1)
	lob.Len(s, 1, 0)
	lob.Read(s, 1, 0, 0, 1)
	lob.Write(s, 1, 0, 0, "x")
	lob.Truncate(s, 1, 0, 0)
	lob.Destroy(s, 1, 0)
}
