package desk_test

import (
	"slices"
	"sort"
	"strings"
	"testing"

	"jetty/api"
	"jetty/base"
	"jetty/desk"
)

// A store of maps, that knows nothing of pages: items are keys, or numbers.
type shelf struct {
	kind int
	keys map[string]string
	nums map[int]string
}

type shelves map[int]*shelf

func (m shelves) copy() shelves {
	out := shelves{}
	for n, s := range m {
		c := &shelf{s.kind, map[string]string{}, map[int]string{}}
		for k, v := range s.keys {
			c.keys[k] = v
		}
		for k, v := range s.nums {
			c.nums[k] = v
		}
		out[n] = c
	}
	return out
}

func (s *shelf) pairs() []api.Pair {
	var l []api.Pair
	for k, v := range s.keys {
		l = append(l, api.Pair{Key: k, Val: v})
	}
	for k, v := range s.nums {
		l = append(l, api.Pair{Id: k, Val: v})
	}
	sort.Slice(l, func(i, j int) bool { return l[i].Key < l[j].Key || l[i].Key == l[j].Key && l[i].Id < l[j].Id })
	return l
}

func (m shelves) list() []api.Shelf {
	var l []api.Shelf
	for n := 1; n <= 6; n++ {
		if s := m[n]; s != nil {
			l = append(l, api.Shelf{Store: n, Kind: s.kind, Pairs: s.pairs()})
		}
	}
	return l
}

// kindOf: the kind of store that an operation is of.
func kindOf(op int) int {
	switch {
	case op >= api.OpInsert && op <= api.OpList:
		return api.Heap
	case op >= api.OpPut && op <= api.OpRange:
		return api.Index
	}
	return api.Object
}

// do: what a store of maps answers; of OpMake and OpInsert the number is what was answered.
func (m shelves) do(t *testing.T, op api.Op, was api.Answer) api.Answer {
	t.Helper()
	if op.Kind == api.OpMake {
		if m[was.Num] != nil || was.Num < 1 {
			t.Fatal("a store that is there", op, was)
		}
		m[was.Num] = &shelf{op.Num, map[string]string{}, map[int]string{}}
		return api.Answer{Num: was.Num}
	}
	s := m[op.Store]
	if s == nil || op.Kind != api.OpDrop && s.kind != kindOf(op.Kind) {
		return err(api.ErrStore)
	}
	if op.Kind == api.OpDrop {
		delete(m, op.Store)
		return fine
	}
	switch s.kind {
	case api.Heap:
		return s.heap(t, op, was)
	case api.Index:
		return s.index(op)
	}
	return s.object(op)
}

func (s *shelf) heap(t *testing.T, op api.Op, was api.Answer) api.Answer {
	t.Helper()
	old, there := s.nums[op.Num]
	if op.Kind == api.OpInsert {
		if _, there := s.nums[was.Num]; there {
			t.Fatal("the id of a record that is there", op, was)
		}
		s.nums[was.Num] = op.Val
		return api.Answer{Num: was.Num}
	}
	if op.Kind == api.OpList {
		return api.Answer{Pairs: s.pairs()}
	}
	if !there {
		return err(api.ErrNone)
	}
	switch op.Kind {
	case api.OpRead:
		return api.Answer{Val: old}
	case api.OpUpdate:
		s.nums[op.Num] = op.Val
	case api.OpDelete:
		delete(s.nums, op.Num)
	}
	return fine
}

func (s *shelf) index(op api.Op) api.Answer {
	old, there := s.keys[op.Key]
	switch op.Kind {
	case api.OpRange:
		l := slices.DeleteFunc(s.pairs(), func(p api.Pair) bool { return p.Key < op.Key })
		return api.Answer{Pairs: l[:min(len(l), op.Num)]}
	case api.OpPut:
		if there {
			return err(api.ErrThere)
		}
		s.keys[op.Key] = op.Val
		return fine
	}
	if !there {
		return err(api.ErrNone)
	}
	switch op.Kind {
	case api.OpGet:
		return api.Answer{Val: old}
	case api.OpSet:
		s.keys[op.Key] = op.Val
	case api.OpCut:
		delete(s.keys, op.Key)
	}
	return fine
}

func (s *shelf) object(op api.Op) api.Answer {
	old, there := s.nums[op.Num]
	if op.Kind == api.OpNew {
		if there {
			return err(api.ErrThere)
		}
		s.nums[op.Num] = ""
		return fine
	}
	if !there {
		return err(api.ErrNone)
	}
	switch op.Kind {
	case api.OpLen:
		return api.Answer{Num: len(old)}
	case api.OpPiece:
		if op.At+op.Len > len(old) {
			return err(api.ErrArg)
		}
		return api.Answer{Val: old[op.At : op.At+op.Len]}
	case api.OpWrite:
		if op.At > len(old) {
			return err(api.ErrArg)
		}
		now := old[:op.At] + op.Val
		if len(now) < len(old) {
			now += old[len(now):]
		}
		s.nums[op.Num] = now
	case api.OpTruncate:
		if op.Len > len(old) {
			return err(api.ErrArg)
		}
		s.nums[op.Num] = old[:op.Len]
	case api.OpDestroy:
		delete(s.nums, op.Num)
	}
	return fine
}

// A deed is an operation that was answered.
type deed struct {
	op  api.Op
	was api.Answer
}

// A run is sessions at work, and what they were answered.
type run struct {
	t     *testing.T
	next  func(int) int
	d     *desk.Desk
	deeds [8][]deed // of each session's transaction
	under [8]api.Op
	saves [8][]int
	model shelves
	left  int // how many operations are to begin still
	waits int
	dead  int
	full  int
	done  int
}

func random(seed uint64) func(int) int {
	return func(n int) int {
		seed = seed*6364136223846793005 + 1442695040888963407
		return int(seed>>33) % n
	}
}

// some: an operation, few items, so that sessions meet.
func (r *run) some(i int) api.Op {
	op := api.Op{Store: 1 + r.next(4), Key: string([]byte{byte('a' + r.next(7))}), Val: strings.Repeat("v", r.next(21))}
	op.Num, op.At, op.Len = r.next(4), r.next(20), r.next(20)
	if len(r.deeds[i]) > 2+r.next(6) {
		op.Kind = []int{api.OpCommit, api.OpCommit, api.OpAbort}[r.next(3)]
		return op
	}
	switch r.next(30) {
	case 0:
		op.Kind, op.Num = api.OpMake, 1+r.next(3)
		return op
	case 1:
		op.Kind = api.OpDrop
		if r.next(3) > 0 {
			op.Kind = api.OpSave
		}
		return op
	case 2:
		op.Kind, op.Num = api.OpBack, 0
		if n := len(r.saves[i]); n > 0 {
			op.Num = r.saves[i][r.next(n)]
		}
		return op
	case 3:
		op.Kind = api.OpSave
		return op
	}
	switch r.model.kindAt(op.Store) {
	case api.Heap:
		op.Kind = api.OpInsert + r.next(5)
		op.Num = 16 + r.next(40)
	case api.Index:
		op.Kind = api.OpPut + r.next(5)
	default:
		op.Kind = api.OpNew + r.next(6)
	}
	return op
}

func (m shelves) kindAt(store int) int {
	if s := m[store]; s != nil {
		return s.kind
	}
	return 0
}

// turn: a session begins something, or goes on.
func (r *run) turn(i int) {
	var a api.Answer
	switch {
	case r.d.Busy(i):
		a = r.d.Step(i)
	case !r.d.Open(i):
		if r.left--; r.left < 0 {
			return
		}
		r.deeds[i], r.saves[i], r.under[i] = nil, nil, begin
		a = r.d.Do(i, begin)
	default:
		op := r.some(i)
		if r.left--; r.left < 0 {
			op = commit
		}
		r.under[i] = op
		a = r.d.Do(i, op)
	}
	noCircle(r.t, r.d, 8)
	r.answered(i, a)
}

func (r *run) answered(i int, a api.Answer) {
	t, op := r.t, r.under[i]
	if a.Wait {
		r.waits++
		if !r.d.Busy(i) || !same(a, wait) {
			t.Fatal(i, a)
		}
		return
	}
	if r.d.Busy(i) {
		t.Fatal(i, "is busy, and was answered", a)
	}
	if a.Err == api.ErrDead {
		r.dead++
		if r.d.Open(i) || op.Kind == api.OpCommit || op.Kind == api.OpAbort {
			t.Fatal(i, op, a)
		}
		return
	}
	if a.Err == api.ErrDown || a.Err == api.ErrBusy || a.Err == api.ErrXct {
		t.Fatal(i, op, a)
	}
	if (op.Kind == api.OpCommit || op.Kind == api.OpAbort || op.Kind == api.OpBack) && a.Err != api.OK {
		t.Fatal("an end, or Back, is refused", op, a)
	}
	r.done++
	switch op.Kind {
	case api.OpBegin, api.OpAbort:
	case api.OpCommit:
		r.replay(i)
	default:
		if op.Kind == api.OpSave {
			r.saves[i] = append(r.saves[i], a.Num)
		}
		r.deeds[i] = append(r.deeds[i], deed{op, a})
	}
	if (op.Kind == api.OpCommit || op.Kind == api.OpAbort) == r.d.Open(i) && a.Err == api.OK {
		t.Fatal(i, op, "open:", r.d.Open(i))
	}
}

// replay: a transaction that commits does on maps what it did, behind all that committed ahead of it.
func (r *run) replay(i int) {
	r.t.Helper()
	m := r.model.copy()
	type mark struct {
		num int
		m   shelves
	}
	marks := []mark{{0, r.model.copy()}}
	for _, x := range r.deeds[i] {
		switch {
		case x.was.Err == api.ErrFull || x.was.Err == api.ErrSpace || x.was.Err == api.ErrMany:
			r.full++
			continue
		case x.op.Kind == api.OpSave:
			marks = append(marks, mark{x.was.Num, m.copy()})
			continue
		case x.op.Kind == api.OpBack: // what has a place behind that number; of one that is no savepoint any more, too
			k := len(marks) - 1
			for marks[k].num > x.op.Num {
				k--
			}
			m, marks = marks[k].m.copy(), marks[:k+1]
			continue
		}
		if a := m.do(r.t, x.op, x.was); !same(a, x.was) {
			r.t.Fatalf("%d %+v: answered %+v, as if alone %+v", i, x.op, x.was, a)
		}
	}
	r.model = m
}

func sameShelf(a, b api.Shelf) bool {
	return a.Store == b.Store && a.Kind == b.Kind && slices.Equal(a.Pairs, b.Pairs)
}

func TestAsIfAlone(t *testing.T) { // P21.2, P21.3, P21.4, P21.5, P1, P2, P5, P6
	waited, dead, done, full := 0, 0, 0, 0
	for round := range 120 {
		pages, sectors := []int{60, 200, 14}[round%3], []int{600, 4000, 160}[round/3%3]
		_, b := mounted(t, pages, sectors)
		r := &run{t: t, next: random(uint64(round)), model: shelves{}, left: 500}
		r.d = open(t, b, 8, []int{1, 3, 64}[round/2%3])
		sessions := 2 + round%7
		for r.left > 0 {
			r.turn(r.next(sessions))
		}
		idle := 0
		for rounds := 0; idle < sessions; rounds++ { // round and round: everything is answered
			idle = 0
			for i := range sessions {
				r.turn(i)
				if !r.d.Busy(i) && !r.d.Open(i) {
					idle++
				}
			}
			if rounds > 100 {
				t.Fatal("somebody waits for ever", r.d.Locks())
			}
		}
		if len(r.d.Locks()) != 0 || len(b.Lives()) != 0 {
			t.Fatal("locks without a transaction", r.d.Locks())
		}
		l, e := b.Shelves()
		if e != api.OK || !slices.EqualFunc(l, r.model.list(), sameShelf) {
			t.Fatalf("%+v, not %+v", l, r.model.list())
		}
		waited, dead, done, full = waited+r.waits, dead+r.dead, done+r.done, full+r.full
	}
	if waited < 1000 || dead < 100 || done < 20000 || full < 20 {
		t.Fatal("sessions hardly met", waited, dead, done, full)
	}
}

func TestStrictLocks(t *testing.T) { // P21.5: no lock goes ahead of its transaction's end
	_, b := mounted(t, 60, 2000)
	r := &run{t: t, next: random(99), model: shelves{}, left: 1500}
	r.d = open(t, b, 8, 3)
	had := map[api.Name]map[int]int{}
	for r.left > 0 {
		r.turn(r.next(6))
		now := map[api.Name]map[int]int{}
		for _, h := range r.d.Locks() {
			if now[h.Name] == nil {
				now[h.Name] = map[int]int{}
			}
			now[h.Name][h.Xct] = h.Mode
			if !slices.Contains(b.Lives(), h.Xct) {
				t.Fatal("a lock of nobody", h)
			}
		}
		for name, l := range had {
			for x, mode := range l {
				if slices.Contains(b.Lives(), x) && now[name][x] < mode {
					t.Fatal(name, x, "has lost", mode)
				}
			}
		}
		had = now
	}
}

func TestAbortLeavesNothing(t *testing.T) { // P1
	_, b := mounted(t, 60, 2000)
	r := &run{t: t, next: random(7), model: shelves{}, left: 100000}
	r.d = open(t, b, 1, 5)
	for range 150 {
		before, _ := b.Shelves()
		do(t, r.d, 0, begin, fine)
		r.deeds[0] = nil
		for k := range 6 {
			op := r.some(0)
			if op.Kind == api.OpCommit || op.Kind == api.OpAbort {
				continue
			}
			mid, _ := b.Shelves()
			a := r.d.Do(0, op)
			if now, _ := b.Shelves(); a.Err != api.OK && !slices.EqualFunc(mid, now, sameShelf) {
				t.Fatal("what is refused has done something", op, a)
			}
			if a.Err == api.OK {
				r.deeds[0] = append(r.deeds[0], deed{op, a})
			}
			_ = k
		}
		if r.next(2) == 0 {
			do(t, r.d, 0, abort, fine)
			if now, _ := b.Shelves(); !slices.EqualFunc(before, now, sameShelf) {
				t.Fatal("what aborts has done something", before, now)
			}
			continue
		}
		do(t, r.d, 0, commit, fine)
		now, _ := b.Shelves()
		r.model = shelves{}
		for _, s := range now {
			r.model[s.Store] = &shelf{kind: s.Kind}
		}
	}
}

func TestCrashOfSessions(t *testing.T) { // P1, P3: what commits were answered stays, and nothing else
	for round := range 30 {
		dev, b := mounted(t, 60, 600)
		r := &run{t: t, next: random(uint64(500 + round)), model: shelves{}, left: 200}
		r.d = open(t, b, 8, 4)
		for r.left > 0 {
			r.turn(r.next(5))
		}
		keep := make([]bool, dev.Pending())
		for i := range keep {
			keep[i] = r.next(2) == 0
		}
		b, e := base.Mount(dev.Crash(keep), 8)
		if e != api.OK {
			t.Fatal(e)
		}
		l, e := b.Shelves()
		if e != api.OK || !slices.EqualFunc(l, r.model.list(), sameShelf) {
			t.Fatalf("%+v, not %+v", l, r.model.list())
		}
	}
}
