package base

import (
	"jetty/api"
	"jetty/chain"
	"jetty/heap"
	"jetty/lob"
	"jetty/octet"
	"jetty/space"
	"jetty/stage"
	"jetty/tree"
)

// maxPieces: as many as an object has at most.
const maxPieces = api.MaxObject / api.MaxChunk

// A job is an operation of a transaction while it is done.
type job struct {
	b     *Base
	x     int
	op    api.Op
	keep  []api.Name
	tried bool // a checkpoint was made for it already
}

func (j *job) run() api.Answer {
	switch j.op.Kind {
	case api.OpBegin, api.OpCommit, api.OpAbort, api.OpSave, api.OpBack:
		return j.frame()
	case api.OpMake, api.OpDrop:
		return j.store()
	case api.OpInsert, api.OpRead, api.OpUpdate, api.OpDelete, api.OpList:
		return j.heap()
	case api.OpPut, api.OpGet, api.OpSet, api.OpCut, api.OpRange:
		return j.index()
	case api.OpNew, api.OpLen, api.OpPiece, api.OpWrite, api.OpTruncate, api.OpDestroy:
		return j.object()
	}
	return api.Answer{Err: api.ErrArg}
}

// frame: what a transaction begins, ends or goes back with.
func (j *job) frame() api.Answer {
	var a api.Answer
	c := j.b.chain
	switch j.op.Kind {
	case api.OpBegin:
		a.Num, a.Err = j.begin()
	case api.OpCommit:
		if a.Err = c.Commit(j.x); a.Err == api.OK {
			a.Err = j.b.finish(j.x)
		}
	case api.OpAbort:
		if a.Err = c.Abort(j.x, j.b); a.Err == api.OK {
			a.Err = j.b.finish(j.x)
		}
	case api.OpSave:
		a.Num, a.Err = c.Save(j.x)
	case api.OpBack:
		a.Err = c.Back(j.x, j.op.Num, j.b)
	}
	return a
}

func (j *job) begin() (int, api.Errno) {
	x, e := j.b.chain.Begin()
	if e == api.ErrFull {
		if e := j.b.checkpoint(); e != api.OK {
			return 0, e
		}
		x, e = j.b.chain.Begin()
	}
	if e != api.OK {
		return 0, e
	}
	j.b.works[x] = &work{names: map[api.Name]struct{}{}}
	return x, api.OK
}

// change: what stands on a stage is a change of the transaction; once a checkpoint may make room for it.
func (j *job) change(s *stage.Stage, u api.Undo, more int) api.Errno {
	images, e := s.Images()
	if e != api.OK {
		return e
	}
	e = j.b.chain.Change(j.x, u, images, more)
	if e != api.ErrFull || j.tried {
		return e
	}
	j.tried = true
	if e := j.b.checkpoint(); e != api.OK {
		return e
	}
	return j.b.chain.Change(j.x, u, images, more)
}

// touch: others keep the place of what the transaction has changed.
func (j *job) touch(store int, item string) {
	j.b.works[j.x].names[api.Name{Store: store, Item: item}] = struct{}{}
}

// store: one is made, or dropped.
func (j *job) store() api.Answer {
	s := j.b.over()
	before, e := s.Get(space.Dir)
	if e != api.OK {
		return api.Answer{Err: e}
	}
	var a api.Answer
	store := j.op.Store
	if j.op.Kind == api.OpMake {
		store, a.Err = space.Make(s, j.op.Num)
		a.Num = store
	} else {
		a.Err = drop(s, store)
	}
	if a.Err != api.OK {
		return a
	}
	u := api.Undo{Kind: api.UndoDir, Slot: store - 1, Before: before.Cells[store-1]}
	if a.Err = j.change(s, u, chain.TidyBytes); a.Err == api.OK {
		w := j.b.works[j.x]
		w.stores = append(w.stores, store)
	}
	return a
}

// drop: a store that is live is a ghost.
func drop(s *stage.Stage, store int) api.Errno {
	_, _, state, e := space.Find(s, store)
	if e != api.OK {
		return e
	}
	if state != api.Live {
		return api.ErrStore
	}
	return space.State(s, store, api.Ghost)
}

// heap: an operation on records.
func (j *job) heap() api.Answer {
	var a api.Answer
	var u api.Undo
	s, op := j.b.over(), j.op
	switch op.Kind {
	case api.OpInsert:
		a.Num, u, a.Err = heap.Insert(s, op.Store, op.Val, j.keptIds())
	case api.OpRead:
		a.Val, a.Err = heap.Read(s, op.Store, op.Num)
	case api.OpUpdate:
		u, a.Err = heap.Update(s, op.Store, op.Num, op.Val)
	case api.OpDelete:
		u, a.Err = heap.Delete(s, op.Store, op.Num)
	case api.OpList:
		a.Pairs, a.Err = heap.List(s, op.Store)
	}
	if a.Err != api.OK || u.Kind == api.UndoNone {
		return a
	}
	if a.Err = j.change(s, u, 0); a.Err == api.OK {
		j.touch(op.Store, Item(heap.Id(u.Page, u.Slot)))
	}
	return a
}

// needs: is there such a live store of a kind?
func (j *job) needs(s *stage.Stage, want int) api.Errno {
	kind, _, state, e := space.Find(s, j.op.Store)
	if e != api.OK {
		return e
	}
	if kind != want || state != api.Live {
		return api.ErrStore
	}
	return api.OK
}

// index: an operation on keys.
func (j *job) index() api.Answer {
	var a api.Answer
	s, op := j.b.over(), j.op
	if e := j.needs(s, api.Index); e != api.OK {
		return api.Answer{Err: e}
	}
	switch op.Kind {
	case api.OpGet:
		a.Val, a.Err = tree.Get(s, op.Store, op.Key)
	case api.OpRange:
		a.Pairs, a.Err = tree.Range(s, op.Store, op.Key, op.Num)
	default:
		a.Err = j.step(lob.Step{Kind: op.Kind, Key: op.Key, Val: op.Val})
	}
	return a
}

// step: one change of a tree.
func (j *job) step(x lob.Step) api.Errno {
	var u api.Undo
	var e api.Errno
	s, store := j.b.over(), j.op.Store
	switch x.Kind {
	case api.OpPut:
		u, e = tree.Put(s, store, x.Key, x.Val, j.keptKeys())
	case api.OpSet:
		u, e = tree.Set(s, store, x.Key, x.Val)
	case api.OpCut:
		u, e = tree.Cut(s, store, x.Key)
	}
	if e != api.OK {
		return e
	}
	if e := j.change(s, u, 0); e != api.OK {
		return e
	}
	j.touch(store, x.Key)
	return api.OK
}

// object: an operation on large objects.
func (j *job) object() api.Answer {
	var a api.Answer
	var steps []lob.Step
	s, op := j.b.over(), j.op
	if e := j.needs(s, api.Object); e != api.OK {
		return api.Answer{Err: e}
	}
	switch op.Kind {
	case api.OpNew:
		steps, a.Err = lob.New(s, op.Store, op.Num)
	case api.OpLen:
		a.Num, a.Err = lob.Len(s, op.Store, op.Num)
	case api.OpPiece:
		a.Val, a.Err = lob.Read(s, op.Store, op.Num, op.At, op.Len)
	case api.OpWrite:
		steps, a.Err = lob.Write(s, op.Store, op.Num, op.At, op.Val)
	case api.OpTruncate:
		steps, a.Err = lob.Truncate(s, op.Store, op.Num, op.Len)
	case api.OpDestroy:
		steps, a.Err = lob.Destroy(s, op.Store, op.Num)
	}
	if a.Err == api.OK {
		a.Err = j.all(steps)
	}
	return a
}

// all: steps, or none of them.
func (j *job) all(steps []lob.Step) api.Errno {
	c := j.b.chain
	save, e := c.Save(j.x)
	for i := 0; i < len(steps) && e == api.OK; i++ {
		e = j.step(steps[i])
	}
	if e == api.OK {
		return api.OK
	}
	if e := c.Back(j.x, save, j.b); e != api.OK {
		return e
	}
	return e
}

// eachChanged goes over what transactions that live have changed of the job's store.
func (j *job) eachChanged(visit func(item string)) {
	for _, w := range j.b.works {
		for name := range w.names {
			if name.Store == j.op.Store {
				visit(name.Item)
			}
		}
	}
}

// eachHeld goes over the items of the job's store that were handed in.
func (j *job) eachHeld(visit func(item string)) {
	for _, name := range j.keep {
		if name.Store == j.op.Store && name.Item != "" {
			visit(name.Item)
		}
	}
}

// idOf: the number that an item names.
func idOf(item string) (int, bool) {
	n, e := octet.Val(item)
	return int(n), e == api.OK && len(item) == itemBytes
}

// keptIds: the records whose places no other one may take.
func (j *job) keptIds() []int {
	var ids []int
	add := func(item string) {
		if id, ok := idOf(item); ok {
			ids = append(ids, id)
		}
	}
	j.eachHeld(add)
	j.eachChanged(add)
	return ids
}

// keptKeys: the keys whose ghosts stay; of an object that was handed in all that its pieces may have.
func (j *job) keptKeys() []string {
	var keys []string
	j.eachHeld(func(item string) {
		num, ok := idOf(item)
		if j.op.Kind == api.OpPut {
			keys = append(keys, item)
		} else if ok && num < api.MaxObjects {
			for i := range maxPieces {
				keys = append(keys, lob.Key(num, i))
			}
		}
	})
	j.eachChanged(func(item string) { keys = append(keys, item) })
	return keys
}
