package locks_test

import (
	"math"
	"slices"
	"sort"
	"testing"

	"jetty/api"
	"jetty/locks"
	"jetty/modes"
)

var one = api.Name{Store: 1, Item: "a"}

func ask(t *testing.T, l *locks.Table, x int, name api.Name, mode int, want bool) {
	t.Helper()
	if ok, e := l.Ask(x, name, mode); ok != want || e != api.OK {
		t.Fatalf("Ask(%d, %v, %d): %v, %d", x, name, mode, ok, e)
	}
}

func arcs(t *testing.T, l *locks.Table, want ...[2]int) {
	t.Helper()
	if got := l.Arcs(); !slices.Equal(got, want) {
		t.Fatal(got, want)
	}
}

func all(t *testing.T, l *locks.Table, want ...api.Hold) {
	t.Helper()
	if got := l.All(); !slices.Equal(got, want) {
		t.Fatal(got, want)
	}
}

func TestExample(t *testing.T) { // P9.1
	l := locks.New()
	ask(t, l, 1, one, api.S, true)
	ask(t, l, 2, one, api.S, true)
	ask(t, l, 3, one, api.X, false)
	ask(t, l, 4, one, api.S, false)
	ask(t, l, 1, one, api.X, false)
	arcs(t, l, [2]int{1, 2}, [2]int{3, 1}, [2]int{3, 2}, [2]int{4, 1}, [2]int{4, 3})
	all(t, l, api.Hold{Name: one, Xct: 1, Mode: api.S, Wants: api.X}, api.Hold{Name: one, Xct: 2, Mode: api.S},
		api.Hold{Name: one, Xct: 3, Wants: api.X}, api.Hold{Name: one, Xct: 4, Wants: api.S})
	for x, w := range []bool{false, true, false, true, true, false} {
		if l.Waiting(x) != w {
			t.Fatal(x)
		}
	}
	l.Release(2)
	if l.Mode(1, one) != api.X || l.Waiting(1) || !l.Waiting(3) {
		t.Fatal(l.All())
	}
	l.Release(1)
	if l.Mode(3, one) != api.X || l.Waiting(3) || !l.Waiting(4) || l.Mode(1, one) != api.NL {
		t.Fatal(l.All())
	}
	l.Release(3)
	if l.Mode(4, one) != api.S || l.Waiting(4) {
		t.Fatal(l.All())
	}
	l.Release(4)
	all(t, l)
	arcs(t, l)
}

func TestWrong(t *testing.T) { // P9.1
	l := locks.New()
	for _, m := range []int{math.MinInt, -1, 0, 7, 8, 256, math.MaxInt} {
		if ok, e := l.Ask(1, one, m); ok || e != api.ErrArg {
			t.Fatal(m, ok, e)
		}
	}
	all(t, l)
	ask(t, l, 1, one, api.X, true)
	ask(t, l, 2, one, api.IS, false)
	if ok, e := l.Ask(2, api.Name{}, api.IS); ok || e != api.ErrBusy {
		t.Fatal(ok, e)
	}
	if ok, e := l.Ask(2, one, 0); ok || e != api.ErrArg {
		t.Fatal("the argument comes first", ok, e)
	}
	if l.Mode(2, api.Name{}) != api.NL || l.Mode(2, one) != api.NL {
		t.Fatal()
	}
	var none *locks.Table
	if ok, e := none.Ask(1, one, api.S); ok || e != api.ErrArg {
		t.Fatal(ok, e)
	}
	none.Release(1)
	if none.Mode(1, one) != api.NL || none.Waiting(1) || none.All() != nil || none.Arcs() != nil {
		t.Fatal()
	}
}

func TestAnswersAreNew(t *testing.T) { // rule 5
	l := locks.New()
	ask(t, l, 1, one, api.X, true)
	ask(t, l, 2, one, api.X, false)
	l.All()[0].Mode, l.Arcs()[0][0] = 99, 99
	all(t, l, api.Hold{Name: one, Xct: 1, Mode: api.X}, api.Hold{Name: one, Xct: 2, Wants: api.X})
	arcs(t, l, [2]int{2, 1})
}

func TestUpgrades(t *testing.T) { // P9.1
	l := locks.New()
	ask(t, l, 5, one, api.IS, true)
	ask(t, l, 6, one, api.IS, true)
	ask(t, l, 7, one, api.IS, true)
	ask(t, l, 8, one, api.X, false)
	ask(t, l, 5, one, api.IS, true) // has it
	ask(t, l, 6, one, api.IX, true) // wishes don't stand ahead of a hold
	ask(t, l, 7, one, api.S, false)
	ask(t, l, 5, one, api.S, false)
	ask(t, l, 9, one, api.IS, false) // behind 8, and behind holds that want
	arcs(t, l, [2]int{5, 6}, [2]int{7, 6}, [2]int{8, 5}, [2]int{8, 6}, [2]int{8, 7}, [2]int{9, 5}, [2]int{9, 7}, [2]int{9, 8})
	l.Release(8)
	if l.Waiting(8) || !l.Waiting(9) {
		t.Fatal("9 stands behind holds that want")
	}
	l.Release(6)
	if l.Mode(7, one) != api.S || l.Mode(5, one) != api.S || l.Mode(9, one) != api.IS {
		t.Fatal(l.All())
	}
	ask(t, l, 5, one, api.IX, false) // SIX
	all(t, l, api.Hold{Name: one, Xct: 5, Mode: api.S, Wants: api.SIX}, api.Hold{Name: one, Xct: 7, Mode: api.S}, api.Hold{Name: one, Xct: 9, Mode: api.IS})
	l.Release(7)
	if l.Mode(5, one) != api.SIX {
		t.Fatal(l.All())
	}
}

func TestFirstToWant(t *testing.T) { // P9.1: not the lowest number, but who began first
	l := locks.New()
	for x := 1; x <= 3; x++ {
		ask(t, l, x, one, api.S, true)
	}
	ask(t, l, 2, one, api.U, true)
	ask(t, l, 3, one, api.U, false)
	ask(t, l, 1, one, api.U, false)
	arcs(t, l, [2]int{1, 2}, [2]int{3, 2})
	l.Release(2)
	if l.Mode(3, one) != api.U || l.Mode(1, one) != api.S || !l.Waiting(1) || l.Waiting(3) {
		t.Fatal(l.All())
	}
}

func TestOrderOfNames(t *testing.T) { // P9.1
	l := locks.New()
	var want []api.Hold
	names := []api.Name{{Store: math.MinInt}, {Store: -1, Item: "z"}, {}, {Item: "a"}, {Store: 1}, {Store: 1, Item: "\x00"}, {Store: 1, Item: "a"}, {Store: 1, Item: "aa"}, {Store: 1, Item: "\xff"}, {Store: 2}, {Store: math.MaxInt, Item: ""}}
	for i := len(names) - 1; i >= 0; i-- {
		for _, x := range []int{7, math.MinInt, 0, math.MaxInt, -3} {
			ask(t, l, x, names[i], api.IS, true)
		}
	}
	for _, name := range names {
		for _, x := range []int{math.MinInt, -3, 0, 7, math.MaxInt} {
			want = append(want, api.Hold{Name: name, Xct: x, Mode: api.IS})
		}
	}
	all(t, l, want...)
}

// entry: a hold (mode not NL) or a wish, in the order of coming; since: when a hold began to want.
type entry struct{ xct, mode, wants, since int }

// model: the table by its words.
type model struct {
	names map[api.Name][]entry
	clock int
}

func (m *model) waits(x int) bool {
	for _, l := range m.names {
		for _, e := range l {
			if e.xct == x && e.wants != api.NL {
				return true
			}
		}
	}
	return false
}

func free(l []entry, x, mode int) bool {
	for _, e := range l {
		if e.mode != api.NL && e.xct != x && !modes.Compatible(mode, e.mode) {
			return false
		}
	}
	return true
}

func (m *model) ask(x int, name api.Name, mode int) (bool, api.Errno) {
	if mode < 1 || mode > 6 {
		return false, api.ErrArg
	}
	if m.waits(x) {
		return false, api.ErrBusy
	}
	m.clock++
	l := m.names[name]
	somebody := false
	for i, e := range l {
		somebody = somebody || e.wants != api.NL
		if e.xct != x {
			continue
		}
		j := modes.Join(e.mode, mode)
		if j != e.mode && !free(l, x, j) {
			l[i].wants, l[i].since = j, m.clock
			return false, api.OK
		}
		l[i].mode = j
		return true, api.OK
	}
	if !somebody && free(l, x, mode) {
		m.names[name] = append(l, entry{xct: x, mode: mode})
		return true, api.OK
	}
	m.names[name] = append(l, entry{xct: x, wants: mode})
	return false, api.OK
}

func (m *model) release(x int) {
	for name, l := range m.names {
		n := len(l)
		l = slices.DeleteFunc(slices.Clone(l), func(e entry) bool { return e.xct == x })
		if len(l) < n {
			l = give(l)
		}
		m.names[name] = l
	}
}

func give(l []entry) []entry {
	for {
		first := -1
		eager := false
		for i, e := range l {
			if e.mode == api.NL || e.wants == api.NL {
				continue
			}
			eager = true
			if free(l, e.xct, e.wants) && (first < 0 || e.since < l[first].since) {
				first = i
			}
		}
		if first >= 0 {
			l[first].mode, l[first].wants = l[first].wants, api.NL
			continue
		}
		if eager {
			return l
		}
		i := slices.IndexFunc(l, func(e entry) bool { return e.mode == api.NL })
		if i < 0 || !free(l, l[i].xct, l[i].wants) {
			return l
		}
		l[i].mode, l[i].wants = l[i].wants, api.NL
	}
}

func (m *model) all() []api.Hold {
	var names []api.Name
	for name := range m.names {
		names = append(names, name)
	}
	sort.Slice(names, func(i, j int) bool {
		a, b := names[i], names[j]
		return a.Store < b.Store || a.Store == b.Store && a.Item < b.Item
	})
	var out []api.Hold
	for _, name := range names {
		l := slices.Clone(m.names[name])
		sort.SliceStable(l, func(i, j int) bool {
			a, b := l[i], l[j]
			return a.mode != 0 && (b.mode == 0 || a.xct < b.xct)
		})
		for _, e := range l {
			out = append(out, api.Hold{Name: name, Xct: e.xct, Mode: e.mode, Wants: e.wants})
		}
	}
	return out
}

func (m *model) arcs() [][2]int {
	set := map[[2]int]bool{}
	for _, l := range m.names {
		for i, e := range l {
			if e.wants == api.NL {
				continue
			}
			for j, o := range l {
				if i == j {
					continue
				}
				wish := e.mode == api.NL
				hold := o.mode != api.NL
				if hold && !modes.Compatible(e.wants, o.mode) || wish && hold && o.wants != api.NL || wish && !hold && j < i {
					set[[2]int{e.xct, o.xct}] = true
				}
			}
		}
	}
	var out [][2]int
	for a := range set {
		out = append(out, a)
	}
	sort.Slice(out, func(i, j int) bool {
		return out[i][0] < out[j][0] || out[i][0] == out[j][0] && out[i][1] < out[j][1]
	})
	return out
}

// same holds the table against the model, and against what is promised of it (P9.2).
func same(t *testing.T, k int, l *locks.Table, m *model) {
	t.Helper()
	got := l.All()
	if !slices.Equal(got, m.all()) {
		t.Fatal(k, got, m.all())
	}
	a := l.Arcs()
	if !slices.Equal(a, m.arcs()) {
		t.Fatal(k, a, m.arcs())
	}
	waiters := map[int]int{}
	for _, h := range got {
		if h.Wants != api.NL {
			waiters[h.Xct]++
		}
		for _, o := range got {
			if h.Name == o.Name && h.Xct != o.Xct && h.Mode != api.NL && o.Mode != api.NL && !modes.Compatible(h.Mode, o.Mode) {
				t.Fatal(k, "not together", h, o)
			}
		}
	}
	for x := -1; x < 9; x++ {
		if l.Waiting(x) != (waiters[x] == 1) || waiters[x] > 1 {
			t.Fatal(k, x)
		}
		somebody := slices.ContainsFunc(a, func(p [2]int) bool { return p[0] == x && p[1] != x })
		if l.Waiting(x) != somebody {
			t.Fatal(k, x, "waits for nobody, or doesn't wait")
		}
	}
}

func TestEveryOrder(t *testing.T) { // P9.1, P9.2
	seed := uint64(1)
	next := func(n int) int {
		seed = seed*6364136223846793005 + 1442695040888963407
		return int(seed>>33) % n
	}
	for round := range 60 {
		l, m := locks.New(), &model{names: map[api.Name][]entry{}}
		names := []api.Name{{}, {Store: 1}, {Store: 1, Item: "a"}, {Store: 2}}[:1+round%4]
		for k := range 250 {
			x, name := next(7), names[next(len(names))]
			if next(5) == 0 {
				l.Release(x)
				m.release(x)
			} else {
				mode := next(8)
				ok, e := l.Ask(x, name, mode)
				wantOk, wantE := m.ask(x, name, mode)
				if ok != wantOk || e != wantE {
					t.Fatal(round, k, x, name, mode, ok, e)
				}
			}
			mode := api.NL
			for _, e := range m.names[name] {
				if e.xct == x {
					mode = e.mode
				}
			}
			if l.Mode(x, name) != mode {
				t.Fatal(round, k, x, name)
			}
			same(t, k, l, m)
		}
	}
}

func TestFair(t *testing.T) { // P9.3
	seed := uint64(9)
	next := func(n int) int {
		seed = seed*6364136223846793005 + 1442695040888963407
		return int(seed>>33) % n
	}
	for round := range 300 {
		l := locks.New()
		for range 40 {
			l.Ask(next(8), api.Name{Store: next(2)}, 1+next(6))
		}
		turn := next(8)
		for k := range 8 {
			x := (turn + k) % 8
			was := l.Waiting(x)
			l.Release(x)
			if l.Waiting(x) || was && l.Mode(x, api.Name{}) != api.NL {
				t.Fatal(round, x)
			}
			for y := range 8 {
				if l.Waiting(y) && !slices.ContainsFunc(l.Arcs(), func(a [2]int) bool { return a[0] == y }) {
					t.Fatal(round, y, "waits for nobody")
				}
			}
		}
		if len(l.All()) != 0 || len(l.Arcs()) != 0 {
			t.Fatal(round, l.All())
		}
	}
}
