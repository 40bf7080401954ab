package audit_test

import (
	"strings"
	"testing"

	"jetty/api"
	"jetty/audit"
	"jetty/base"
	"jetty/desk"
	"jetty/disk"
	"jetty/space"
	"jetty/stage"
)

// owned: where no transaction lives, each page in use belongs to a store that is there.
func owned(t *testing.T, b *base.Base) {
	t.Helper()
	s := stage.New(b.Source())
	if e := audit.Check(s); e != api.OK {
		t.Fatal(e)
	}
	if len(b.Lives()) > 0 {
		return
	}
	used, _, e := space.Used(s)
	if e != api.OK {
		t.Fatal(e)
	}
	for _, id := range used {
		if id == space.Dir || id == space.Map {
			continue
		}
		if _, _, state, e := space.Find(s, page(t, s, id).Store); e != api.OK || state != api.Live {
			t.Fatal(id, "belongs to no store that is there")
		}
	}
}

// some: an operation on few items, of any store and kind.
func some(next func(int) int) api.Op {
	op := api.Op{Kind: api.OpInsert + next(16), Store: 1 + next(5), Val: strings.Repeat("v", next(21))}
	op.Key = string([]byte{byte('a' + next(5)), byte('a' + next(20))})
	op.Num, op.At, op.Len = next(6), next(40), next(40)
	switch next(40) {
	case 0:
		op.Kind, op.Num = api.OpMake, 1+next(3)
	case 1:
		op.Kind = api.OpDrop
	case 2:
		op.Kind, op.Num = api.OpBack, next(4000)
	case 3, 4, 5, 6:
		op.Kind = api.OpCommit
	case 7, 8:
		op.Kind = api.OpAbort
	}
	if op.Kind == api.OpUpdate || op.Kind == api.OpDelete {
		op.Num = 16 + next(60)
	}
	return op
}

func TestOrderAlways(t *testing.T) { // P7: between any two calls everything hangs together
	seed := uint64(73)
	next := func(n int) int {
		seed = seed*6364136223846793005 + 1442695040888963407
		return int(seed>>33) % n
	}
	for round := range 24 {
		pages, sectors := []int{12, 40, 150}[round%3], []int{128, 300, 1000}[round/3%3]
		n, _ := base.Size(pages, sectors)
		d, _ := disk.New(n)
		if e := base.Format(d, pages, sectors); e != api.OK {
			t.Fatal(e)
		}
		for range 5 {
			b, e := base.Mount(d, 4+next(10))
			if e != api.OK {
				t.Fatal(e)
			}
			owned(t, b)
			k, e := desk.New(b, 4, 1+next(20))
			if e != api.OK {
				t.Fatal(e)
			}
			for range 250 {
				i := next(4)
				var a api.Answer
				switch {
				case k.Busy(i):
					a = k.Step(i)
				case !k.Open(i):
					a = k.Do(i, api.Op{Kind: api.OpBegin})
				default:
					a = k.Do(i, some(next))
				}
				if a.Err == api.ErrDown {
					t.Fatal(a)
				}
				owned(t, b)
			}
			keep := make([]bool, d.Pending())
			for i := range keep {
				keep[i] = next(2) == 0
			}
			d = d.Crash(keep)
		}
	}
}
