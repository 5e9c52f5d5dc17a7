package pool_test

import (
	"fmt"
	"math"
	"math/rand"
	"slices"
	"strings"
	"testing"

	"lockkeeper/api"
	"lockkeeper/clock"
	"lockkeeper/dirty"
	"lockkeeper/disk"
	"lockkeeper/frames"
	"lockkeeper/journal"
	"lockkeeper/pool"
	"lockkeeper/store"
)

// same holds two values against each other; fmt tells nil and empty lists alike.
func same(a, b any) bool { return fmt.Sprintf("%v", a) == fmt.Sprintf("%v", b) }

func of(id, version int, body string) api.Page {
	return api.Page{Id: id, Version: version, Body: body}
}

func act(kind, id int) pool.Act { return pool.Act{Kind: kind, Id: id} }
func writes(id int, body string) pool.Act {
	return pool.Act{Kind: pool.Write, Id: id, Body: body}
}

func newDisk(t *testing.T, sectors int, pages ...api.Page) api.Disk {
	t.Helper()
	d, err := disk.New(sectors)
	if err != api.OK {
		t.Fatal(err)
	}
	for _, p := range pages {
		if d, err = store.Set(d, p); err != api.OK {
			t.Fatal(err)
		}
	}
	return d
}

func open(t *testing.T, d api.Disk, n int) pool.Pool {
	t.Helper()
	p, err := pool.Open(d, n)
	if err != api.OK {
		t.Fatalf("Open: %d", err)
	}
	return p
}

// do holds what is common to all acts: what was handed in stays, and the operations told are those of the disk.
func do(t *testing.T, p pool.Pool, a pool.Act) (pool.Pool, api.Page, []journal.Op, api.Errno) {
	t.Helper()
	was := fmt.Sprint(p)
	got, page, l, err := pool.Do(p, a)
	if fmt.Sprint(p) != was {
		t.Fatalf("%v: what was handed in was changed: %v", a, p)
	}
	if !frames.Right(got.F) || got.Now != p.Now || !same(journal.Run(p.D, l, len(l)), got.D) || len(got.D.Cache) > 0 {
		t.Fatalf("%v of %v: %v, operations %v", a, p, got, l)
	}
	if err != api.OK && (page != (api.Page{}) || len(l) > 0 || !same(got, p)) {
		t.Fatalf("%v of %v: %v %v %v %d", a, p, got, page, l, err)
	}
	return got, page, l, err
}

// well is an act without an error; it tells a page, and writes the pages of some Ids.
func well(t *testing.T, p pool.Pool, a pool.Act, want api.Page, ids ...int) pool.Pool {
	t.Helper()
	got, page, l, err := do(t, p, a)
	if err != api.OK || page != want {
		t.Fatalf("%v of %v: %v %d", a, p, page, err)
	}
	var wrote []int
	for _, op := range l {
		if op.Write.At == 0 && strings.HasPrefix(op.Write.Data, "J") {
			wrote = append(wrote, int(op.Write.Data[1]))
		}
	}
	if !slices.Equal(wrote, ids) || len(l) != 10*len(ids) {
		t.Fatalf("%v of %v: the pages %d are written", a, p, wrote)
	}
	return got
}

func fails(t *testing.T, p pool.Pool, a pool.Act, want api.Errno) {
	t.Helper()
	if _, _, _, err := do(t, p, a); err != want {
		t.Errorf("%v of %v: %d, not %d", a, p, err, want)
	}
}

func none(t *testing.T, p pool.Pool, kind, id int) pool.Pool {
	t.Helper()
	return well(t, p, act(kind, id), api.Page{})
}

func TestP16_1_Kinds(t *testing.T) {
	if got := []int{pool.Fetch, pool.Create, pool.Read, pool.Write, pool.Unpin, pool.Delete, pool.Flush, pool.Age}; !slices.Equal(got, []int{1, 2, 3, 4, 5, 6, 7, 8}) {
		t.Errorf("the kinds: %d", got)
	}
}

func TestP16_1_Open(t *testing.T) {
	d := newDisk(t, 35, of(3, 2, "a"))
	for _, n := range []int{1, 5, 8} {
		f, _ := frames.New(n)
		if p := open(t, d, n); !same(p, pool.Pool{F: f, D: d}) {
			t.Errorf("Open: %v", p)
		}
	}
	for _, n := range []int{0, -1, 9, math.MaxInt, math.MinInt} {
		if p, err := pool.Open(d, n); err != api.ErrArg || !same(p, pool.Pool{}) {
			t.Errorf("Open of %d frames: %v %d", n, p, err)
		}
	}
	torn, waits := newDisk(t, 35), newDisk(t, 35)
	torn.Sectors[20] = "short"
	waits, _ = disk.Put(waits, api.Write{At: 34, Data: waits.Sectors[0]})
	for i, d := range []api.Disk{{}, newDisk(t, 34), torn, waits} {
		if p, err := pool.Open(d, 3); err != api.ErrArg || !same(p, pool.Pool{}) {
			t.Errorf("Open of wrong disk %d: %v %d", i, p, err)
		}
	}
}

func TestP16_1_OpenRecovers(t *testing.T) {
	d := newDisk(t, 35, of(3, 2, "a"))
	l := store.Steps(d, of(3, 3, "b"))
	d = disk.Crash(journal.Run(d, l, 7), []int{0})
	if _, err := store.Get(d, 3); err != api.ErrCorrupt {
		t.Fatalf("a page written by half: %d", err)
	}
	was := fmt.Sprint(d)
	p := open(t, d, 2)
	if !same(p.D, journal.Recover(d)) || fmt.Sprint(d) != was {
		t.Errorf("Open: %v", p.D)
	}
	well(t, p, act(pool.Fetch, 3), of(3, 3, "b"))
}

func TestP16_1_Tick(t *testing.T) {
	p := open(t, newDisk(t, 35), 2)
	for _, c := range []struct{ now, n, want int }{
		{0, 0, 0}, {0, 1, 1}, {5, 7, 12}, {5, -1, 5}, {5, math.MinInt, 5}, {5, api.MaxNum, api.MaxNum}, {5, api.MaxNum - 6, api.MaxNum - 1}, {5, api.MaxNum - 5, api.MaxNum}, {0, math.MaxInt, api.MaxNum}, {api.MaxNum, 1, api.MaxNum}, {api.MaxNum, math.MaxInt, api.MaxNum},
	} {
		q := pool.Tick(p, c.now)
		if got := pool.Tick(q, c.n); got.Now != c.want || q.Now != c.now || !same(got.F, p.F) || !same(got.D, p.D) {
			t.Errorf("Tick(%d) at %d: %d", c.n, c.now, got.Now)
		}
	}
}

func TestP16_2_WrongActs(t *testing.T) {
	p := open(t, newDisk(t, 35, of(1, 1, "")), 2)
	p = well(t, p, act(pool.Fetch, 1), of(1, 1, ""))
	for _, kind := range []int{0, -1, 9, math.MaxInt, math.MinInt} {
		fails(t, p, act(kind, 1), api.ErrArg)
	}
	for kind := pool.Fetch; kind <= pool.Flush; kind++ {
		for _, id := range []int{0, -1, 17, math.MaxInt, math.MinInt} {
			fails(t, p, act(kind, id), api.ErrArg)
		}
	}
	for _, age := range []int{0, -1, 17, math.MaxInt, math.MinInt} {
		none(t, p, pool.Age, age)
	}
}

func TestP16_2_Fetch(t *testing.T) {
	d := newDisk(t, 35, of(1, 4, "a"), of(2, 5, "b"), of(3, 6, "c"))
	d.Sectors[9] = strings.Repeat("z", 16)
	p := open(t, d, 2)
	p = well(t, p, act(pool.Fetch, 1), of(1, 4, "a"))
	f, _ := frames.New(2)
	f, _ = frames.Load(f, of(1, 4, "a"), 0, false)
	if !same(p.F, f) {
		t.Errorf("Fetch: %v", p.F)
	}
	p = well(t, p, act(pool.Fetch, 1), of(1, 4, "a"))
	if f, _ = frames.Pin(f, 1); !same(p.F, f) {
		t.Errorf("Fetch of one that is there: %v", p.F)
	}
	fails(t, p, act(pool.Fetch, 5), api.ErrNone)
	fails(t, p, act(pool.Fetch, 4), api.ErrCorrupt)
	p = well(t, p, act(pool.Fetch, 2), of(2, 5, "b"))
	fails(t, p, act(pool.Fetch, 3), api.ErrBusy)
	fails(t, p, act(pool.Fetch, 5), api.ErrNone)
	fails(t, p, act(pool.Fetch, 4), api.ErrCorrupt)
	p.F.Clock.Frames[1].Pins = api.MaxNum
	fails(t, p, act(pool.Fetch, 2), api.ErrFull)
	p = none(t, none(t, p, pool.Unpin, 1), pool.Unpin, 1)
	p = well(t, p, act(pool.Fetch, 3), of(3, 6, "c"))
	if _, ok := frames.Find(p.F, 1); ok {
		t.Errorf("Fetch made no room: %v", p.F)
	}
}

func TestP16_2_Create(t *testing.T) {
	d := newDisk(t, 35, of(1, 4, "a"))
	d.Sectors[9] = strings.Repeat("z", 16)
	p := pool.Tick(open(t, d, 2), 6)
	fails(t, p, act(pool.Create, 1), api.ErrThere)
	fails(t, p, act(pool.Create, 4), api.ErrCorrupt)
	p = well(t, p, act(pool.Create, 3), of(3, 1, ""))
	f, _ := frames.New(2)
	if f, _ = frames.Load(f, of(3, 1, ""), 6, true); !same(p.F, f) {
		t.Errorf("Create: %v", p.F)
	}
	fails(t, p, act(pool.Create, 3), api.ErrThere)
	p = well(t, p, act(pool.Create, 16), of(16, 1, ""))
	fails(t, p, act(pool.Create, 1), api.ErrThere)
	fails(t, p, act(pool.Create, 4), api.ErrCorrupt)
	fails(t, p, act(pool.Create, 5), api.ErrBusy)
	if _, err := store.Get(p.D, 3); err != api.ErrNone {
		t.Errorf("Create writes: %d", err)
	}
}

func TestP16_2_ReadWriteUnpin(t *testing.T) {
	p := open(t, newDisk(t, 35, of(1, 4, "a"), of(2, api.MaxNum, "b")), 2)
	for _, kind := range []int{pool.Read, pool.Write, pool.Unpin} {
		fails(t, p, act(kind, 1), api.ErrHandle)
		fails(t, p, act(kind, 9), api.ErrHandle)
	}
	fails(t, p, writes(1, strings.Repeat("a", 17)), api.ErrHandle)
	p = well(t, pool.Tick(p, 3), act(pool.Fetch, 1), of(1, 4, "a"))
	p = well(t, p, act(pool.Read, 1), of(1, 4, "a"))
	want, _ := frames.Write(p.F, 1, "0123456789abcdef", 3)
	p = well(t, p, writes(1, "0123456789abcdef"), of(1, 5, "0123456789abcdef"))
	if since, ok := dirty.Since(p.F.Dirty, 1); !ok || since != 3 || !same(p.F, want) {
		t.Errorf("Write: %v", p.F)
	}
	p = well(t, pool.Tick(p, 1), writes(1, ""), of(1, 6, ""))
	fails(t, p, writes(1, strings.Repeat("a", 17)), api.ErrLong)
	p = well(t, p, act(pool.Fetch, 2), of(2, api.MaxNum, "b"))
	fails(t, p, writes(2, "c"), api.ErrFull)
	fails(t, p, writes(2, strings.Repeat("a", 17)), api.ErrLong)
	want, _ = frames.Unpin(p.F, 1)
	if p = none(t, p, pool.Unpin, 1); !same(p.F, want) {
		t.Errorf("Unpin: %v", p.F)
	}
	for _, kind := range []int{pool.Read, pool.Write, pool.Unpin} {
		fails(t, p, act(kind, 1), api.ErrHandle)
	}
	if p = well(t, p, act(pool.Fetch, 1), of(1, 6, "")); p.F.Clock.Frames[0].Pins != 1 {
		t.Errorf("Fetch of one that is there: %v", p.F)
	}
}

func TestP16_2_RoomWritesBack(t *testing.T) {
	p := open(t, newDisk(t, 35, of(4, 1, "d"), of(5, 1, "e")), 3)
	for id := 1; id <= 3; id++ {
		p = well(t, p, act(pool.Create, id), of(id, 1, ""))
		p = well(t, p, writes(id, "x"), of(id, 2, "x"))
		p = none(t, p, pool.Unpin, id)
		p = pool.Tick(p, 1)
	}
	// All are dirty: the hand goes round once, and the first one, which is clean then, goes.
	q := well(t, p, act(pool.Fetch, 4), of(4, 1, "d"), 1, 2, 3)
	if _, ok := frames.Find(q.F, 1); ok || len(q.F.Dirty) != 0 || q.F.Clock.Hand != 1 {
		t.Errorf("Fetch: %v", q.F)
	}
	if l := store.List(q.D); len(l) != 5 || l[0] != of(1, 2, "x") || l[2] != of(3, 2, "x") {
		t.Errorf("on the disk: %v", l)
	}
	q = well(t, q, act(pool.Create, 6), of(6, 1, ""))
	if _, ok := frames.Find(q.F, 2); ok {
		t.Errorf("Create: %v", q.F)
	}
	// One with a pin is passed, and one that is clean goes at once.
	p = well(t, p, act(pool.Fetch, 1), of(1, 2, "x"))
	p = well(t, p, act(pool.Flush, 3), api.Page{}, 3)
	q = well(t, p, act(pool.Create, 9), of(9, 1, ""), 2)
	if _, ok := frames.Find(q.F, 3); ok || !same(dirtyPages(q), []int{1, 9}) {
		t.Errorf("Create: %v", q.F)
	}
}

func dirtyPages(p pool.Pool) []int {
	return dirty.Due(p.F.Dirty, p.Now, 0)
}

func TestP16_3_Delete(t *testing.T) {
	d := newDisk(t, 35, of(1, 4, "a"), of(2, 5, "b"))
	d.Sectors[9] = strings.Repeat("z", 16)
	p := open(t, d, 3)
	fails(t, p, act(pool.Delete, 3), api.ErrNone)
	fails(t, p, act(pool.Delete, 4), api.ErrNone)
	q := well(t, p, act(pool.Delete, 1), api.Page{}, 1)
	if want, _ := store.Del(p.D, 1); !same(q.D, want) || !same(q.F, p.F) {
		t.Errorf("Delete from the disk: %v", q)
	}
	fails(t, q, act(pool.Delete, 1), api.ErrNone)
	p = well(t, p, act(pool.Fetch, 1), of(1, 4, "a"))
	fails(t, p, act(pool.Delete, 1), api.ErrBusy)
	p = none(t, p, pool.Unpin, 1)
	q = well(t, p, act(pool.Delete, 1), api.Page{}, 1)
	if _, err := store.Get(q.D, 1); err != api.ErrNone {
		t.Errorf("Delete of both: %d", err)
	}
	if _, ok := frames.Find(q.F, 1); ok {
		t.Errorf("Delete of both: %v", q.F)
	}
	// One that never came to the disk is dropped alone.
	p = well(t, p, act(pool.Create, 7), of(7, 1, ""))
	fails(t, p, act(pool.Delete, 7), api.ErrBusy)
	p = none(t, p, pool.Unpin, 7)
	q = none(t, p, pool.Delete, 7)
	if want, _ := frames.Drop(p.F, 7); !same(q.F, want) || len(q.F.Dirty) > 0 {
		t.Errorf("Delete of one in a frame alone: %v", q.F)
	}
	well(t, q, act(pool.Create, 7), of(7, 1, ""))
}

func TestP16_3_DeleteOverACorruptHome(t *testing.T) {
	p := open(t, newDisk(t, 35, of(1, 4, "a")), 3)
	p = none(t, well(t, p, act(pool.Fetch, 1), of(1, 4, "a")), pool.Unpin, 1)
	p.D.Sectors = slices.Clone(p.D.Sectors)
	p.D.Sectors[3] = strings.Repeat("z", 16)
	p = well(t, p, act(pool.Delete, 1), api.Page{}, 1)
	if _, err := store.Get(p.D, 1); err != api.ErrNone {
		t.Errorf("Delete of a framed one: %d", err)
	}
}

func TestP16_3_Flush(t *testing.T) {
	d := newDisk(t, 35, of(1, 4, "a"))
	d.Sectors[9] = strings.Repeat("z", 16)
	p := open(t, d, 3)
	fails(t, p, act(pool.Flush, 2), api.ErrNone)
	fails(t, p, act(pool.Flush, 4), api.ErrNone)
	none(t, p, pool.Flush, 1)
	p = well(t, p, act(pool.Fetch, 1), of(1, 4, "a"))
	none(t, p, pool.Flush, 1)
	p = well(t, p, writes(1, "b"), of(1, 5, "b"))
	if old, _ := store.Get(p.D, 1); old != of(1, 4, "a") {
		t.Errorf("a Write writes: %v", old)
	}
	want, _ := frames.Clean(p.F, 1)
	p = well(t, p, act(pool.Flush, 1), api.Page{}, 1)
	if got, _ := store.Get(p.D, 1); got != of(1, 5, "b") || !same(p.F, want) {
		t.Errorf("Flush: %v %v", got, p.F)
	}
	none(t, p, pool.Flush, 1)
}

func TestP16_3_FlushExample(t *testing.T) {
	p := open(t, newDisk(t, 35), 1)
	p = well(t, p, act(pool.Create, 3), of(3, 1, ""))
	p = well(t, p, writes(3, "hi"), of(3, 2, "hi"))
	p = well(t, none(t, p, pool.Unpin, 3), act(pool.Flush, 3), api.Page{}, 3)
	if l := store.List(p.D); !slices.Equal(l, []api.Page{of(3, 2, "hi")}) {
		t.Errorf("on the disk: %v", l)
	}
}

func TestP16_3_Age(t *testing.T) {
	p := open(t, newDisk(t, 35), 4)
	for _, id := range []int{9, 2, 5} {
		p = well(t, p, act(pool.Create, id), of(id, 1, ""))
		p = pool.Tick(p, 2)
	}
	// They are dirty since 0, 2 and 4, and it is 6.
	for age, ids := range map[int][]int{-1: nil, 7: nil, 6: {9}, 5: {9}, 4: {9, 2}, 2: {9, 2, 5}, 0: {9, 2, 5}, math.MaxInt: nil, math.MinInt: nil} {
		q := well(t, p, act(pool.Age, age), api.Page{}, ids...)
		if left := dirtyPages(q); !slices.Equal(left, []int{9, 2, 5}[len(ids):]) || q.F.Clock.Frames[0].Pins != 1 {
			t.Errorf("Age of %d: %v", age, q.F)
		}
		if l := store.List(q.D); len(l) != len(ids) {
			t.Errorf("Age of %d: %v", age, l)
		}
	}
}

// model is a map of pages, and how many pins they have.
type model struct {
	pages map[int]api.Page
	pins  map[int]int
	now   int
}

func (m *model) do(a pool.Act, full bool) (api.Page, api.Errno) {
	page, is := m.pages[a.Id]
	switch a.Kind {
	case pool.Fetch, pool.Create:
		if a.Kind == pool.Create && is {
			return api.Page{}, api.ErrThere
		}
		if a.Kind == pool.Fetch && !is {
			return api.Page{}, api.ErrNone
		}
		if full {
			return api.Page{}, api.ErrBusy
		}
		if a.Kind == pool.Create {
			m.pages[a.Id] = of(a.Id, 1, "")
		}
		m.pins[a.Id]++
		return m.pages[a.Id], api.OK
	case pool.Read, pool.Write, pool.Unpin:
		switch {
		case m.pins[a.Id] == 0:
			return api.Page{}, api.ErrHandle
		case a.Kind == pool.Unpin:
			m.pins[a.Id]--
			return api.Page{}, api.OK
		case a.Kind == pool.Write && len(a.Body) > 16:
			return api.Page{}, api.ErrLong
		case a.Kind == pool.Write:
			m.pages[a.Id] = of(a.Id, page.Version+1, a.Body)
		}
		return m.pages[a.Id], api.OK
	case pool.Delete:
		if m.pins[a.Id] > 0 {
			return api.Page{}, api.ErrBusy
		}
		delete(m.pages, a.Id)
	}
	if a.Kind != pool.Age && !is {
		return api.Page{}, api.ErrNone
	}
	return api.Page{}, api.OK
}

func TestP16_5_AMapOfPages(t *testing.T) {
	r := rand.New(rand.NewSource(1))
	for range 40 {
		n := 1 + r.Intn(8)
		p := open(t, newDisk(t, 35+r.Intn(3)), n)
		m := model{pages: map[int]api.Page{}, pins: map[int]int{}}
		ids := 2 + r.Intn(15)
		for range 150 {
			a := pool.Act{Kind: 1 + r.Intn(8), Id: 1 + r.Intn(ids)}
			if a.Kind == pool.Write {
				a.Body = strings.Repeat("b", r.Intn(18))
			}
			if r.Intn(3) == 0 {
				p = pool.Tick(p, r.Intn(4))
			}
			pinned := 0
			for _, f := range p.F.Clock.Frames {
				if f.Pins > 0 {
					pinned++
				}
			}
			_, framed := frames.Find(p.F, a.Id)
			want, wantErr := m.do(a, pinned == n && !framed)
			got, page, _, err := do(t, p, a)
			if page != want || err != wantErr {
				t.Fatalf("%v of %v: %v %d, not %v %d", a, p, page, err, want, wantErr)
			}
			p = got
			if a.Kind == pool.Flush && err == api.OK {
				if page, _ := store.Get(p.D, a.Id); page != m.pages[a.Id] {
					t.Fatalf("%v: on the disk %v", a, page)
				}
			}
		}
	}
}

// plain does Fetch and Create as the chapter words them, of a page that is in no frame, and tells which pages were written.
func plain(p pool.Pool, page api.Page, isFresh bool) (pool.Pool, []int) {
	var ids []int
	for {
		f, goes, isDirty, err := frames.Room(p.F)
		if err != api.OK {
			return p, nil
		}
		p.F = f
		if !isDirty {
			break
		}
		p.D, _ = store.Set(p.D, goes)
		p.F, _ = frames.Clean(p.F, goes.Id)
		ids = append(ids, goes.Id)
	}
	p.F, _ = frames.Load(p.F, page, p.Now, isFresh)
	return p, ids
}

func TestP16_4_RoomAllAlong(t *testing.T) {
	r := rand.New(rand.NewSource(2))
	for range 40 {
		p := open(t, newDisk(t, 35), 1+r.Intn(5))
		for range 100 {
			id := 1 + r.Intn(9)
			p = pool.Tick(p, r.Intn(2))
			onDisk, err := store.Get(p.D, id)
			if _, ok := frames.Find(p.F, id); !ok && slices.ContainsFunc(p.F.Clock.Frames, func(f clock.Frame) bool { return f.Pins == 0 }) {
				kind, page := pool.Fetch, onDisk
				if err == api.ErrNone {
					kind, page = pool.Create, of(id, 1, "")
				}
				want, ids := plain(p, page, kind == pool.Create)
				p = well(t, p, act(kind, id), page, ids...)
				if !same(p, want) {
					t.Fatalf("%v, not %v", p, want)
				}
				continue
			}
			a := []pool.Act{act(pool.Unpin, id), writes(id, "a"), act(pool.Flush, id), act(pool.Fetch, id), act(pool.Unpin, id)}[r.Intn(5)]
			p, _, _, _ = do(t, p, a)
		}
	}
}
