package base

import (
	"jetty/api"
	"jetty/heap"
	"jetty/lob"
	"jetty/space"
	"jetty/stage"
	"jetty/tree"
)

// Shelves: what all stores hold, by their numbers.
func (b *Base) Shelves() ([]api.Shelf, api.Errno) {
	if b.isDown() {
		return nil, api.ErrDown
	}
	var shelves []api.Shelf
	s := b.over()
	for store := 1; store <= api.MaxStores; store++ {
		kind, _, state, e := space.Find(s, store)
		if e == api.ErrStore || e == api.OK && state != api.Live {
			continue
		}
		var pairs []api.Pair
		if e == api.OK {
			pairs, e = shelf(s, store, kind)
		}
		if b.note(e) != api.OK {
			return nil, e
		}
		shelves = append(shelves, api.Shelf{Store: store, Kind: kind, Pairs: pairs})
	}
	return shelves, api.OK
}

// shelf: what one store holds.
func shelf(s *stage.Stage, store, kind int) ([]api.Pair, api.Errno) {
	switch kind {
	case api.Heap:
		return heap.List(s, store)
	case api.Object:
		return lob.List(s, store)
	}
	return keys(s, store)
}

// keys: all of an index, and their values.
func keys(s *stage.Stage, store int) ([]api.Pair, api.Errno) {
	var all []api.Pair
	from := ""
	for {
		pairs, e := tree.Range(s, store, from, api.MaxScan)
		if e != api.OK {
			return nil, e
		}
		for _, p := range pairs {
			if p.Key > from { // the first one of a further round is known already
				all = append(all, p)
			}
		}
		if len(pairs) < api.MaxScan || pairs[len(pairs)-1].Key <= from {
			return all, api.OK
		}
		from = pairs[len(pairs)-1].Key
	}
}

// Next: the first item of an index that is a key or greater, be it a ghost; "" behind the last.
func (b *Base) Next(store int, key string) (string, api.Errno) {
	if b.isDown() {
		return "", api.ErrDown
	}
	found, _, _, e := tree.Seek(b.over(), store, key)
	return found, b.note(e)
}

// Range: the items of an index that a Range passes, ghosts with them; "" at the end, where it comes so far.
func (b *Base) Range(store int, key string, most int) ([]string, api.Errno) {
	if b.isDown() {
		return nil, api.ErrDown
	}
	if len(key) > api.MaxKey || most < 0 || most > api.MaxScan {
		return nil, api.ErrArg
	}
	var items []string
	s := b.over()
	for live := 0; live < most; {
		found, _, state, e := tree.Seek(s, store, key)
		if b.note(e) != api.OK {
			return nil, e
		}
		if found != "" && found < key { // no tree in order: there might be no end
			return nil, api.ErrForm
		}
		items = append(items, found)
		if found == "" {
			break
		}
		if state == api.Live {
			live++
		}
		key = found + "\x00" // the least text behind it
	}
	return items, api.OK
}

// Restore: the pages as they are when something is taken back.
func (b *Base) Restore(u api.Undo) ([]api.Image, api.Errno) {
	if b.isDown() {
		return nil, api.ErrDown
	}
	s := b.over()
	if e := b.note(restore(s, u)); e != api.OK {
		return nil, e
	}
	images, e := s.Images()
	return images, b.note(e)
}

func restore(s *stage.Stage, u api.Undo) api.Errno {
	switch u.Kind {
	case api.UndoCell:
		return heap.Restore(s, u)
	case api.UndoKey:
		return tree.Restore(s, u)
	case api.UndoDir:
		state := api.Ghost
		if u.Before.State == api.Live {
			state = api.Live
		}
		return space.State(s, u.Slot+1, state)
	}
	return api.ErrArg
}
