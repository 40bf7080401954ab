package base

import (
	"slices"
	"strings"

	"jetty/api"
	"jetty/chain"
	"jetty/disk"
	"jetty/frame"
	"jetty/logrec"
	"jetty/octet"
	"jetty/page"
	"jetty/pool"
	"jetty/space"
	"jetty/stage"
	"jetty/wal"
)

const (
	masters  = 2 // sectors that hold one, by turns
	mark     = "jettyvol"
	maxPlace = 1 << 40
)

// A master says where a restart begins.
type master struct {
	turn    int // each one that is written has a greater one
	pages   int
	sectors int // of the log
	start   int // the oldest record that is needed
	check   int // from here on all is done again
	fresh   int // the next transaction's number
}

// number: the bytes of a number that is known to fit.
func number(n, width int) string {
	s, _ := octet.Num(uint64(n), width)
	return s
}

func blank() string { return strings.Repeat("\x00", api.SectorSize) }

// write: into one of the two sectors, by turns; a barrier stands behind it.
func (m master) write(d *disk.Disk) api.Errno {
	s := mark + number(m.turn, 8) + number(m.pages, 4) + number(m.sectors, 4) + number(m.start, 8) + number(m.check, 8) + number(m.fresh, 8)
	s += strings.Repeat("\x00", api.SectorSize-len(s))
	if e := d.Write(m.turn%masters, s); e != api.OK {
		return e
	}
	return d.Barrier()
}

// readMaster: what a sector says, if it is a master.
func readMaster(s string) (master, bool) {
	r := octet.Read(s)
	if r.Bytes(len(mark)) != mark {
		return master{}, false
	}
	var m master
	m.turn, m.pages, m.sectors = int(r.Num(8)), int(r.Num(4)), int(r.Num(4))
	m.start, m.check, m.fresh = int(r.Num(8)), int(r.Num(8)), int(r.Num(8))
	_, e := Size(m.pages, m.sectors)
	ok := e == api.OK && m.turn > 0 && m.start >= api.LogData && m.check >= m.start && m.check <= maxPlace && m.fresh > 0
	return m, ok
}

// findMaster: the one of a device that was written last.
func findMaster(d *disk.Disk) (master, api.Errno) {
	var best master
	for i := range masters {
		s, e := d.Read(i)
		if e == api.ErrDown {
			return master{}, e
		}
		if m, ok := readMaster(s); ok && m.turn > best.turn {
			best = m
		}
	}
	need, e := Size(best.pages, best.sectors)
	if e != api.OK || d.Size() < need {
		return master{}, api.ErrForm
	}
	return best, api.OK
}

// Size: how many sectors a volume needs.
func Size(pages, sectors int) (int, api.Errno) {
	if pages < api.MinPages || pages > api.MaxPages || sectors < api.MinLog || sectors > api.MaxLog {
		return 0, api.ErrArg
	}
	return masters + sectors + api.PageSectors*pages, api.OK
}

// Format: a volume without stores.
func Format(d *disk.Disk, pages, sectors int) api.Errno {
	need, e := Size(pages, sectors)
	if e != api.OK || d.Size() < need {
		return api.ErrArg
	}
	if e := retire(d); e != api.OK {
		return e
	}
	if _, e := wal.Create(d, masters, sectors); e != api.OK {
		return e
	}
	if e := formatPages(d, masters+sectors, pages); e != api.OK {
		return e
	}
	m := master{turn: 1, pages: pages, sectors: sectors, start: api.LogData, check: api.LogData, fresh: 1}
	return m.write(d)
}

// retire: no master may outlive what it speaks of. The last one goes last, for the other one may speak of what is gone already.
func retire(d *disk.Disk) api.Errno {
	m, e := findMaster(d)
	if e == api.ErrDown {
		return e
	}
	for i := range masters {
		if e := wipe(d, (m.turn+1+i)%masters, 1); e != api.OK {
			return e
		}
		if e := d.Barrier(); e != api.OK {
			return e
		}
	}
	return api.OK
}

// wipe makes sectors blank.
func wipe(d *disk.Disk, first, n int) api.Errno {
	zero := blank()
	for i := first; i < first+n; i++ {
		s, e := d.Read(i)
		if e == api.OK && s != zero {
			e = d.Write(i, zero)
		}
		if e != api.OK {
			return e
		}
	}
	return api.OK
}

// formatPages: all pages are blank but the first two, and a barrier stands behind them.
func formatPages(d *disk.Disk, first, pages int) api.Errno {
	if e := wipe(d, first, api.PageSectors*pages); e != api.OK {
		return e
	}
	s := stage.New(nil)
	if e := space.Format(s, pages); e != api.OK {
		return e
	}
	for _, id := range []int{space.Dir, space.Map} {
		p, e := s.Get(id)
		if e != api.OK {
			return e
		}
		body, e := page.Encode(p)
		if e != api.OK {
			return e
		}
		sectors, e := frame.Seal(body, 0)
		if e != api.OK {
			return e
		}
		for i, data := range sectors {
			if e := d.Write(first+api.PageSectors*id+i, data); e != api.OK {
				return e
			}
		}
	}
	return d.Barrier()
}

// Mount: a volume as its log and pages have it: what was done is repeated, what didn't end is taken back.
func Mount(d *disk.Disk, frames int) (*Base, api.Errno) {
	m, e := findMaster(d)
	if e != api.OK {
		return nil, e
	}
	if frames < api.MinFrames || frames > api.MaxFrames {
		return nil, api.ErrArg
	}
	b, e := restart(d, m, frames)
	if e == api.OK {
		return b, api.OK
	}
	if e != api.ErrDown {
		e = api.ErrForm // a master, but what it speaks of is no volume
	}
	return nil, e
}

func restart(d *disk.Disk, m master, frames int) (*Base, api.Errno) {
	log, entries, e := wal.Open(d, masters, m.sectors, m.start)
	if e != api.OK {
		return nil, e
	}
	p, e := pool.New(d, log, masters+m.sectors, m.pages, frames)
	if e != api.OK {
		return nil, e
	}
	f := &found{fresh: m.fresh}
	for _, x := range entries {
		if x.At < m.check {
			continue
		}
		if e := f.redo(p, x, m.check); e != api.OK {
			return nil, e
		}
	}
	c, e := chain.New(log, p, f.fresh)
	if e != api.OK {
		return nil, e
	}
	b := &Base{d: d, last: m, pool: p, chain: c, works: map[int]*work{}}
	if e := b.rise(f.lives); e != api.OK {
		return nil, e
	}
	return b, api.OK
}

// found: what the log tells of transactions.
type found struct {
	lives []api.Alive
	fresh int
}

// redo does again what a record says.
func (f *found) redo(p *pool.Pool, x api.Entry, check int) api.Errno {
	r, e := logrec.Decode(x.Bytes)
	if e != api.OK {
		return e
	}
	f.fresh = max(f.fresh, r.Xct+1)
	switch r.Kind {
	case api.RecUpdate, api.RecClr:
		f.touch(r.Xct, x.At)
	case api.RecCommit, api.RecEnd:
		f.lives = slices.DeleteFunc(f.lives, func(l api.Alive) bool { return l.Xct == r.Xct })
	case api.RecCheck:
		// A later one, whose master was never written, tells nothing new.
		if x.At == check {
			f.lives = slices.DeleteFunc(r.Lives, func(l api.Alive) bool { return l.Last == 0 })
			f.fresh = max(f.fresh, r.Fresh)
		}
	}
	for _, m := range r.Images {
		if e := p.Put(m.Id, m.Page, x.At); e != api.OK {
			return e
		}
	}
	return api.OK
}

// touch: a transaction has a record at a place.
func (f *found) touch(x, at int) {
	i := slices.IndexFunc(f.lives, func(l api.Alive) bool { return l.Xct == x })
	if i < 0 {
		f.lives = append(f.lives, api.Alive{Xct: x, First: at, Last: at})
		return
	}
	f.lives[i].Last = at
}

// rise takes back what didn't end, and lets go what nobody needs any more.
func (b *Base) rise(lives []api.Alive) api.Errno {
	if e := b.chain.Rise(lives); e != api.OK {
		return e
	}
	for _, l := range b.chain.Lives() {
		if e := b.chain.Abort(l.Xct, b); e != api.OK {
			return e
		}
		b.chain.Free(l.Xct)
	}
	// Nothing in the log is needed behind this, so there is room for what follows.
	if e := b.checkpoint(); e != api.OK {
		return e
	}
	for store := 1; store <= api.MaxStores; store++ {
		if e := b.forget(store); e != api.OK {
			return e
		}
	}
	return api.OK
}
