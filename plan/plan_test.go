package plan_test

import (
	"math"
	"slices"
	"testing"

	"jetty/api"
	"jetty/base"
	"jetty/disk"
	"jetty/modes"
	"jetty/plan"
)

// peek is an index of some keys, or nothing but an error; it remembers what it was asked.
type peek struct {
	keys  []string
	e     api.Errno
	asked *[]api.Op
}

func (p peek) Next(store int, key string) (string, api.Errno) {
	*p.asked = append(*p.asked, api.Op{Kind: 1, Store: store, Key: key})
	if p.e != api.OK {
		return "junk", p.e
	}
	for _, k := range p.keys {
		if k >= key {
			return k, api.OK
		}
	}
	return "", api.OK
}

func (p peek) Range(store int, key string, most int) ([]string, api.Errno) {
	*p.asked = append(*p.asked, api.Op{Kind: 2, Store: store, Key: key, Num: most})
	if p.e != api.OK {
		return []string{"junk"}, p.e
	}
	var l []string
	for _, k := range append(slices.Clone(p.keys), "") {
		if (k >= key || k == "") && len(l) < most {
			l = append(l, k)
		}
	}
	return l, api.OK
}

func volume(m int) plan.Need { return plan.Need{Mode: m} }

func store(n, m int) plan.Need { return plan.Need{Name: api.Name{Store: n}, Mode: m} }

func item(n int, s string, m int) plan.Need {
	return plan.Need{Name: api.Name{Store: n, Item: s}, Mode: m}
}

func needs(t *testing.T, p plan.Peek, op api.Op, want ...plan.Need) {
	t.Helper()
	if l := plan.Needs(p, op); !slices.Equal(l, want) {
		t.Fatal(op, l, want)
	}
}

func keyOp(kind int, key string) api.Op {
	return api.Op{Kind: kind, Store: 1, Key: key, Num: 77, At: 5, Val: "v"}
}

func TestKeys(t *testing.T) { // P20.1
	var asked []api.Op
	p := peek{keys: []string{"b", "d"}, asked: &asked}
	end := plan.End
	if end != "\xff\xff\xff\xff\xff\xff\xff\xff\xff" {
		t.Fatal(end)
	}
	for _, c := range []struct {
		key, at string
	}{{"b", "b"}, {"c", "d"}, {"e", end}, {"", "b"}, {"a", "b"}, {"d", "d"}, {"123456789", "b"}, {end, end}} {
		needs(t, p, keyOp(api.OpGet, c.key), volume(api.IS), store(1, api.IS), item(1, c.at, api.S))
		for _, kind := range []int{api.OpSet, api.OpCut} {
			if c.key == c.at {
				needs(t, p, keyOp(kind, c.key), volume(api.IX), store(1, api.IX), item(1, c.key, api.X))
			} else {
				needs(t, p, keyOp(kind, c.key), volume(api.IS), store(1, api.IS), item(1, c.at, api.S))
			}
		}
		want := []plan.Need{volume(api.IX), store(1, api.IX), item(1, c.key, api.X)}
		if c.key != c.at {
			want = append(want, item(1, c.at, api.X))
		}
		asked = nil
		needs(t, p, keyOp(api.OpPut, c.key), want...)
		for _, a := range asked {
			if a != (api.Op{Kind: 1, Store: 1, Key: c.key}) {
				t.Fatal(a)
			}
		}
		if len(asked) == 0 {
			t.Fatal("the Peek wasn't asked")
		}
	}
	none := peek{asked: &asked}
	needs(t, none, keyOp(api.OpPut, "a"), volume(api.IX), store(1, api.IX), item(1, "a", api.X), item(1, end, api.X))
	needs(t, none, keyOp(api.OpGet, ""), volume(api.IS), store(1, api.IS), item(1, end, api.S))
}

func TestRange(t *testing.T) { // P20.1
	var asked []api.Op
	p := peek{keys: []string{"b", "d", "f"}, asked: &asked}
	all := []plan.Need{volume(api.IS), store(4, api.IS), item(4, "b", api.S), item(4, "d", api.S), item(4, "f", api.S), item(4, plan.End, api.S)}
	for most := range 6 {
		needs(t, p, api.Op{Kind: api.OpRange, Store: 4, Num: most}, all[:2+min(most, 4)]...)
	}
	needs(t, p, api.Op{Kind: api.OpRange, Store: 4, Key: "e", Num: 9}, all[0], all[1], all[4], all[5])
	needs(t, p, api.Op{Kind: api.OpRange, Store: 4, Key: "g", Num: 9}, all[0], all[1], all[5])
	asked = nil
	plan.Needs(p, api.Op{Kind: api.OpRange, Store: -3, Key: "g", Num: -9})
	if !slices.Contains(asked, api.Op{Kind: 2, Store: -3, Key: "g", Num: -9}) {
		t.Fatal(asked)
	}
}

func TestNumbers(t *testing.T) { // P20.1
	for _, num := range []int{math.MinInt, -1, 0, 16, 258, 1<<32 + 5, math.MaxInt} {
		for _, n := range []int{math.MinInt, -1, 0, 1, 6, 7, math.MaxInt} {
			for kind := -2; kind < 27; kind++ {
				op := api.Op{Kind: kind, Store: n, Num: num, Key: "k", Val: "v", At: 3, Len: 4}
				var want []plan.Need
				switch kind {
				case api.OpMake:
					want = []plan.Need{volume(api.X)}
				case api.OpDrop:
					want = []plan.Need{volume(api.IX), store(n, api.X)}
				case api.OpInsert:
					want = []plan.Need{volume(api.IX), store(n, api.IX)}
				case api.OpList:
					want = []plan.Need{volume(api.IS), store(n, api.S)}
				case api.OpRead, api.OpLen, api.OpPiece:
					want = []plan.Need{volume(api.IS), store(n, api.IS), item(n, base.Item(num), api.S)}
				case api.OpUpdate, api.OpDelete, api.OpNew, api.OpWrite, api.OpTruncate, api.OpDestroy:
					want = []plan.Need{volume(api.IX), store(n, api.IX), item(n, base.Item(num), api.X)}
				case api.OpGet, api.OpSet, api.OpCut, api.OpPut, api.OpRange:
					continue
				}
				var asked []api.Op
				needs(t, peek{asked: &asked, e: api.ErrStore}, op, want...)
				plan.Needs(nil, op) // it ends
			}
		}
	}
	var asked []api.Op
	for _, kind := range []int{math.MinInt, math.MaxInt} {
		needs(t, peek{asked: &asked}, api.Op{Kind: kind, Store: 1})
	}
}

func TestErrors(t *testing.T) { // P20.1: nothing behind what is asked above
	for _, e := range []api.Errno{api.ErrStore, api.ErrDown, api.ErrArg, api.ErrForm} {
		var asked []api.Op
		p := peek{keys: []string{"b"}, e: e, asked: &asked}
		for _, kind := range []int{api.OpGet, api.OpRange} {
			needs(t, p, keyOp(kind, "b"), volume(api.IS), store(1, api.IS))
		}
		for _, kind := range []int{api.OpSet, api.OpCut, api.OpPut} {
			needs(t, p, keyOp(kind, "b"), volume(api.IX), store(1, api.IX))
		}
	}
	var b *base.Base // a nil volume is a Peek that answers errors
	needs(t, b, keyOp(api.OpPut, "b"), volume(api.IX), store(1, api.IX))
	for kind := range 26 {
		plan.Needs(nil, keyOp(kind, "b")) // it ends
	}
}

func TestAbove(t *testing.T) { // P20.2
	var asked []api.Op
	for kind := -1; kind < 26; kind++ {
		for _, key := range []string{"", "a", "b", "c", "z"} {
			l := plan.Needs(peek{keys: []string{"b", "d"}, asked: &asked}, api.Op{Kind: kind, Store: 3, Key: key, Num: 9})
			for i, n := range l {
				if n.Name.Item == "" {
					continue
				}
				over := func(name api.Name) bool {
					return slices.ContainsFunc(l[:i], func(o plan.Need) bool {
						return o.Name == name && modes.Covers(o.Mode, modes.Above(n.Mode))
					})
				}
				if !over(api.Name{}) || !over(api.Name{Store: 3}) {
					t.Fatal(kind, key, l)
				}
			}
		}
	}
}

func TestOnAVolume(t *testing.T) { // P20.1: the volume is a Peek
	n, _ := base.Size(16, 256)
	d, _ := disk.New(n)
	base.Format(d, 16, 256)
	b, e := base.Mount(d, 16)
	if e != api.OK {
		t.Fatal(e)
	}
	b.Do(0, api.Op{Kind: api.OpBegin}, nil)
	b.Do(1, api.Op{Kind: api.OpMake, Num: api.Index}, nil)
	for _, k := range []string{"b", "d"} {
		b.Do(1, api.Op{Kind: api.OpPut, Store: 1, Key: k}, nil)
	}
	needs(t, b, keyOp(api.OpGet, "b"), volume(api.IS), store(1, api.IS), item(1, "b", api.S))
	needs(t, b, keyOp(api.OpGet, "e"), volume(api.IS), store(1, api.IS), item(1, plan.End, api.S))
	needs(t, b, keyOp(api.OpPut, "c"), volume(api.IX), store(1, api.IX), item(1, "c", api.X), item(1, "d", api.X))
	needs(t, b, keyOp(api.OpCut, "c"), volume(api.IS), store(1, api.IS), item(1, "d", api.S))
	needs(t, b, api.Op{Kind: api.OpRange, Store: 1, Num: 2}, volume(api.IS), store(1, api.IS), item(1, "b", api.S), item(1, "d", api.S))
	needs(t, b, api.Op{Kind: api.OpRange, Store: 2, Num: 2}, volume(api.IS), store(2, api.IS))
}
