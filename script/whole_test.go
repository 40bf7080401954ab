package script_test

import (
	"fmt"
	"math"
	"strings"
	"testing"

	"jetty/api"
	"jetty/audit"
	"jetty/base"
	"jetty/chain"
	"jetty/desk"
	"jetty/disk"
	"jetty/frame"
	"jetty/heap"
	"jetty/ledger"
	"jetty/lob"
	"jetty/locks"
	"jetty/logrec"
	"jetty/modes"
	"jetty/node"
	"jetty/octet"
	"jetty/page"
	"jetty/plan"
	"jetty/pool"
	"jetty/script"
	"jetty/space"
	"jetty/stage"
	"jetty/tree"
	"jetty/waits"
	"jetty/wal"
)

// A wild one makes arguments of all kinds, and writes down what is answered.
type wild struct {
	next func(int) int
	out  strings.Builder
}

func (w *wild) tell(l ...any) {
	for _, x := range l {
		switch x.(type) {
		case *disk.Disk, *wal.Log, *pool.Pool, *chain.Chain, *base.Base, *desk.Desk, *stage.Shelf, stage.Source:
			continue // of these only what they answer counts
		}
		fmt.Fprintf(&w.out, "%v ", x)
	}
	w.out.WriteByte('\n')
}

func (w *wild) num() int {
	l := []int{math.MinInt, math.MinInt + 1, -1 << 40, -65536, -2, -1, 0, 1, 2, 3, 4, 5, 6, 7, 8, 9, 16, 17, 20, 33, 54, 55, 63, 64, 65, 127, 128, 129, 224, 255, 256, 257, 1000, 1023, 1024, 1025, 4096, 65535, 65536, 1<<31 - 1, 1 << 31, 1 << 32, 1 << 40, 1<<40 + 1, math.MaxInt - 1, math.MaxInt}
	if w.next(2) == 0 {
		return w.next(10)
	}
	return l[w.next(len(l))]
}

func (w *wild) text() string {
	n := []int{0, 0, 1, 2, 3, 4, 5, 8, 9, 20, 21, 32, 33, 34, 35, 54, 64, 65, 223, 224, 225, 255, 256, 3000, 65535, 65536}[w.next(26)]
	if w.next(2) == 0 {
		n = w.next(9)
	}
	b := make([]byte, n)
	for i := range b[:min(n, 300)] { // zeros behind that
		b[i] = byte(w.next(4))
		if w.next(3) == 0 {
			b[i] = byte(w.next(256))
		}
	}
	return string(b)
}

func (w *wild) texts() []string {
	var l []string
	for range w.next(4) {
		l = append(l, w.text())
	}
	return l
}

func (w *wild) cell() api.Cell { return api.Cell{State: w.next(4) - w.next(2), Data: w.text()} }

func (w *wild) page() api.Page {
	p := api.Page{Kind: w.num(), Level: w.num(), Store: w.num(), Next: w.num()}
	if w.next(3) > 0 {
		p = api.Page{Kind: w.next(5), Level: w.next(3), Store: w.next(4), Next: w.next(12)}
	}
	for i := range w.next(7) {
		p.Cells[i] = w.cell()
		if w.next(3) > 0 {
			p.Cells[i], _ = node.Leaf(string([]byte{byte('a' + i)}), "v", 1+w.next(2))
		}
	}
	return p
}

func (w *wild) undo() api.Undo {
	return api.Undo{Kind: w.next(6) - 1, Store: w.num(), Page: w.num(), Slot: w.num(), Key: w.text(), Before: w.cell()}
}

func (w *wild) images() []api.Image {
	var l []api.Image
	for range w.next(4) {
		l = append(l, api.Image{Id: w.num(), Page: w.page()})
	}
	return l
}

func (w *wild) lives() []api.Alive {
	var l []api.Alive
	for range w.next(10) {
		l = append(l, api.Alive{Xct: w.num(), First: w.num(), Last: w.num()})
	}
	return l
}

func (w *wild) name() api.Name { return api.Name{Store: w.num(), Item: w.text()} }

func (w *wild) op() api.Op {
	op := api.Op{Kind: w.next(27) - 2, Store: w.next(5), Key: w.text(), Val: w.text(), Num: w.num(), At: w.num(), Len: w.num()}
	if w.next(20) == 0 {
		op.Kind, op.Store = w.num(), w.num()
	}
	return op
}

func (w *wild) arcs() [][2]int {
	var l [][2]int
	for range w.next(6) {
		l = append(l, [2]int{w.num(), w.next(5)})
	}
	return l
}

// Get, Next, Range, Restore: it is a source, a Peek and a Restorer itself.
func (w *wild) Get(int) (api.Page, api.Errno) {
	if w.next(9) == 0 {
		return w.page(), api.Errno(w.num())
	}
	return w.page(), api.OK
}

func (w *wild) Next(int, string) (string, api.Errno) { return w.text(), api.Errno(w.next(2)) }

func (w *wild) Range(int, string, int) ([]string, api.Errno) { return w.texts(), api.Errno(w.next(2)) }

func (w *wild) Restore(api.Undo) ([]api.Image, api.Errno) { return w.images(), api.Errno(w.next(2)) }

// three makes results one value.
func three[A, B, C any](a A, b B, c C) []any { return []any{a, b, c} }

func two[A, B any](a A, b B) []any { return []any{a, b} }

func four[A, B, C, D any](a A, b B, c C, d D) []any { return []any{a, b, c, d} }

// bytes: layers 1 to 6.
func (w *wild) bytes() {
	w.tell(two(octet.Num(uint64(w.num()), w.num())), two(octet.Val(w.text())), two(octet.Text(w.text())))
	r := octet.Read(w.text())
	if w.next(9) == 0 {
		r = nil
	}
	for range 4 {
		w.tell(r.Num(w.num()), r.Text(), r.Bytes(w.num()), r.Left(), r.Bad())
	}
	w.tell(two(frame.Seal(w.text(), uint64(w.num()))), three(frame.Open([4]string{w.text(), w.text(), w.text(), w.text()})))
	p := w.page()
	w.tell(page.Check(p), two(page.Encode(p)), two(page.Decode(w.text())), two(page.Room(p)))
	c := w.cell()
	w.tell(two(node.Leaf(w.text(), w.text(), w.num())), two(node.Inner(w.text(), w.num())), three(node.Key(c)), node.Child(c), node.Check(p), node.Count(p))
	w.tell(two(node.Find(p, w.text())), node.Down(p, w.text()), two(node.Put(p, c)), two(node.Take(p, w.num())), four(node.Split(p)))
	rec := api.Rec{Kind: w.num(), Xct: w.num(), Prev: w.num(), Next: w.num(), Fresh: w.num(), Undo: w.undo(), Images: w.images(), Lives: w.lives()}
	w.tell(logrec.Check(rec), two(logrec.Encode(rec)), two(logrec.Decode(w.text())))
}

// device: layers 2, 7, 12, 18.
func (w *wild) device() {
	d, e := disk.New(w.num())
	w.tell(e)
	if d == nil && w.next(4) > 0 {
		d, _ = disk.New(300)
	}
	l, e := wal.Create(d, w.num(), w.num())
	w.tell(e)
	if l == nil && w.next(4) > 0 {
		l, _ = wal.Create(d, 0, 128)
	}
	p, e := pool.New(d, l, w.num(), w.num(), w.num())
	w.tell(e)
	if p == nil && w.next(4) > 0 {
		p, _ = pool.New(d, l, 128, 20, 4)
	}
	c, e := chain.New(l, p, w.num())
	w.tell(e)
	if c == nil && w.next(4) > 0 {
		c, _ = chain.New(l, p, 1)
	}
	for range 30 {
		w.tell(d.Size(), two(d.Read(w.num())), d.Write(w.num(), w.text()), d.Pending())
		w.tell(l.Room(), two(l.Append(w.text())), l.Flush(w.num()), two(l.Read(w.num())), l.Cut(w.num()), three(l.Span()))
		w.tell(two(p.Get(w.num())), p.Put(w.num(), w.page(), w.num()), p.Dirty())
		var r chain.Restorer = w
		if w.next(5) == 0 {
			r = nil
		}
		w.tell(two(c.Begin()), c.Change(w.num(), w.undo(), w.images(), w.num()), c.System(w.images()), two(c.Save(w.num())), c.Back(w.num(), w.num(), r))
		w.tell(c.Commit(w.num()), c.Abort(w.num(), r), c.Lives(), c.Cut(w.num()), c.Rise(w.lives()), c.Fresh(), c.Reserved())
		c.Free(w.num())
		switch w.next(9) {
		case 0:
			w.tell(d.Barrier(), p.Flush(), three(c.Check()))
		case 1:
			d.Fuel(w.num())
		case 2:
			d = d.Crash(make([]bool, w.next(5)))
			_, es, e := wal.Open(d, w.num(), 128, w.num())
			w.tell(es, e)
		}
	}
}

// tables: layers 8 to 11.
func (w *wild) tables() {
	w.tell(modes.Compatible(w.num(), w.num()), modes.Join(w.num(), w.num()), modes.Covers(w.num(), w.num()), modes.Above(w.num()))
	t, g := locks.New(), ledger.New()
	if w.next(9) == 0 {
		t, g = nil, nil
	}
	part := []float64{math.NaN(), math.Inf(1), math.Inf(-1), 0, 1, 2, 0.5, -1, 1 << 40, 1 << 41, math.MaxFloat64, math.SmallestNonzeroFloat64}
	amount := func() complex128 { return complex(part[w.next(len(part))], part[w.next(len(part))]) }
	for range 20 {
		w.tell(two(t.Ask(w.num(), w.name(), w.num())), t.Mode(w.num(), w.name()), t.Waiting(w.num()), t.All(), t.Arcs())
		w.tell(g.Sum(), g.Own(w.num()), two(g.Take(w.num(), amount(), amount())), g.Give(w.num(), amount()))
		if w.next(4) == 0 {
			t.Release(w.num())
			g.Drop(w.num())
		}
	}
	w.tell(two(waits.Spread(make([]uint64, w.next(70)), w.arcs())), two(waits.Digests(w.num(), w.arcs())), two(waits.Circle(w.num(), w.arcs(), w.num())), two(waits.Victim([]int{w.num(), w.num()}[:w.next(3)])))
}

// stages: layers 13 to 17, 20 and 22.
func (w *wild) stages() {
	m, e := stage.Memory(w.num())
	w.tell(e, two(m.Get(w.num())), m.Apply(w.images()))
	var src stage.Source = w
	switch w.next(4) {
	case 0:
		src = nil
	case 1:
		src = m
	case 2:
		m, _ = stage.Memory(40)
		src = m
	}
	s := stage.New(src)
	w.tell(space.Format(s, w.num()))
	if w.next(2) == 0 {
		space.Format(s, 40)
	}
	if w.next(12) == 0 {
		s = nil
	}
	for range 25 {
		store := w.next(8)
		w.tell(two(s.Get(w.num())), two(space.Take(s)), space.Give(s, w.num()), three(space.Used(s)), two(space.Make(s, w.next(5))), four(space.Find(s, store)))
		w.tell(heap.Id(w.num(), w.num()), three(heap.Insert(s, store, w.text(), []int{w.num(), w.num()})), two(heap.Read(s, store, w.num())), two(heap.Update(s, store, w.num(), w.text())), two(heap.Delete(s, store, w.num())), two(heap.List(s, store)), heap.Restore(s, w.undo()))
		w.tell(four(tree.Seek(s, store, w.text())), two(tree.Get(s, store, w.text())), two(tree.Range(s, store, w.text(), w.num())), two(tree.Put(s, store, w.text(), w.text(), w.texts())))
		w.tell(two(tree.Set(s, store, w.text(), w.text())), two(tree.Cut(s, store, w.text())), tree.Restore(s, w.undo()))
		w.tell(lob.Key(w.num(), w.num()), two(lob.Len(s, store, w.num())), two(lob.Read(s, store, w.num(), w.num(), w.num())), two(lob.New(s, store, w.num())))
		w.tell(two(lob.Write(s, store, w.num(), w.num(), w.text())), two(lob.Truncate(s, store, w.num(), w.num())), two(lob.Destroy(s, store, w.num())), two(lob.List(s, store)))
		w.tell(audit.Check(s), two(s.Images()))
		switch w.next(12) {
		case 0:
			w.tell(s.Set(w.num(), w.page()))
		case 1:
			w.tell(space.State(s, store, w.num()), space.Forget(s, w.num()))
		case 2:
			s.Drop()
		}
	}
	var p plan.Peek = w
	if w.next(4) == 0 {
		p = nil
	}
	for range 10 {
		w.tell(plan.Needs(p, w.op()))
	}
}

// volumes: layers 19 and 21.
func (w *wild) volumes() {
	w.tell(two(base.Size(w.num(), w.num())))
	d, _ := disk.New(400)
	if w.next(9) == 0 {
		d = nil
	}
	w.tell(base.Format(d, w.num(), w.num()))
	base.Format(d, 30, 150)
	if w.next(6) == 0 {
		d.Write(w.next(400), strings.Repeat(string([]byte{byte(w.next(256))}), 64))
	}
	b, e := base.Mount(d, w.num())
	w.tell(e)
	if w.next(9) > 0 {
		b, e = base.Mount(d, 4+w.next(20))
	}
	w.tell(e, base.Item(w.num()))
	k, e := desk.New(b, w.num(), w.num())
	w.tell(e)
	if w.next(2) == 0 {
		k, _ = desk.New(b, 8, 3)
	}
	for range 60 {
		keep := []api.Name{w.name(), {Store: w.next(4), Item: base.Item(w.num())}}
		if w.next(2) == 0 {
			w.tell(b.Do(w.next(10), w.op(), keep))
		} else {
			w.tell(k.Do(w.next(8), w.op()), k.Step(w.num()))
			w.tell(k.Do(w.next(8), api.Op{Kind: 1 + w.next(8), Num: 1 + w.next(3)}))
		}
		w.tell(k.Busy(w.num()), k.Open(w.num()), k.Arcs(), k.Locks(), b.Lives())
		w.tell(two(b.Shelves()), two(b.Next(w.num(), w.text())), two(b.Range(w.next(4), w.text(), w.num())), two(b.Restore(w.undo())))
		switch w.next(30) {
		case 0:
			w.tell(b.Checkpoint())
		case 1:
			d.Fuel(w.next(30))
		}
	}
	if src := b.Source(); src != nil {
		w.tell(two(src.Get(w.num())))
	}
	w.tell(script.Run(w.text()))
}

func total(seed uint64) string {
	w := &wild{next: random(seed)}
	w.bytes()
	w.device()
	w.tables()
	w.stages()
	w.volumes()
	return w.out.String()
}

func TestEveryCallEnds(t *testing.T) { // P0, and rule 8: the same calls on new objects answer the same
	for seed := range uint64(250) {
		a := total(seed)
		if b := total(seed); a != b {
			x, y := strings.Split(a, "\n"), strings.Split(b, "\n")
			for i := range x {
				if x[i] != y[i] {
					t.Fatalf("%d: %.300s\nand then\n%.300s", seed, x[i], y[i])
				}
			}
			t.Fatal(seed)
		}
	}
}
