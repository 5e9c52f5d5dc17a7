package crash_test

import (
	"fmt"
	"math"
	"math/rand"
	"slices"
	"strings"
	"testing"

	"lockkeeper/api"
	"lockkeeper/crash"
	"lockkeeper/disk"
	"lockkeeper/frames"
	"lockkeeper/journal"
	"lockkeeper/pool"
	"lockkeeper/store"
)

// same holds two values against each other; fmt tells nil and empty lists alike.
func same(a, b any) bool { return fmt.Sprintf("%v", a) == fmt.Sprintf("%v", b) }

func of(id, version int, body string) api.Page {
	return api.Page{Id: id, Version: version, Body: body}
}

func act(kind, id int) pool.Act { return pool.Act{Kind: kind, Id: id} }
func writes(id int, body string) pool.Act {
	return pool.Act{Kind: pool.Write, Id: id, Body: body}
}

func newDisk(t *testing.T, pages ...api.Page) api.Disk {
	t.Helper()
	d, err := disk.New(35)
	for _, p := range pages {
		d, err = store.Set(d, p)
	}
	if err != api.OK {
		t.Fatal(err)
	}
	return d
}

func start(t *testing.T, n int, pages ...api.Page) crash.Trial {
	t.Helper()
	tr, err := crash.New(newDisk(t, pages...), n)
	if err != api.OK {
		t.Fatal(err)
	}
	return tr
}

// do holds what was handed in to what it was.
func do(t *testing.T, tr crash.Trial, a pool.Act) (crash.Trial, api.Page, api.Errno) {
	t.Helper()
	was := fmt.Sprint(tr)
	got, page, err := crash.Do(tr, a)
	if fmt.Sprint(tr) != was {
		t.Fatalf("%v: what was handed in was changed: %v", a, tr)
	}
	return got, page, err
}

func well(t *testing.T, tr crash.Trial, acts ...pool.Act) crash.Trial {
	t.Helper()
	for _, a := range acts {
		got, _, err := do(t, tr, a)
		if err != api.OK {
			t.Fatalf("%v: %d", a, err)
		}
		tr = got
	}
	return tr
}

func TestP17_1_New(t *testing.T) {
	d := newDisk(t, of(1, 2, "a"))
	for _, n := range []int{1, 8} {
		p, _ := pool.Open(d, n)
		if got, err := crash.New(d, n); err != api.OK || !same(got, crash.Trial{P: p}) {
			t.Errorf("New: %v %d", got, err)
		}
	}
	waits, _ := disk.Put(d, api.Write{At: 0, Data: d.Sectors[0]})
	for i, c := range []struct {
		d api.Disk
		n int
	}{{d, 0}, {d, 9}, {d, -1}, {api.Disk{}, 1}, {waits, 1}} {
		if got, err := crash.New(c.d, c.n); err != api.ErrArg || !same(got, crash.Trial{}) {
			t.Errorf("wrong New %d: %v %d", i, got, err)
		}
	}
}

func TestP17_1_Arm(t *testing.T) {
	tr := start(t, 2)
	for n, want := range map[int]int{0: 0, 5: 5, -1: 0, math.MinInt: 0, 1 << 20: 1 << 20, 1<<20 + 1: 1 << 20, math.MaxInt: 1 << 20} {
		got := crash.Arm(tr, n)
		if !same(got, crash.Trial{P: tr.P, Left: want, Armed: true}) {
			t.Errorf("Arm(%d): %v", n, got)
		}
		if again := crash.Arm(got, 3); again.Left != 3 || !again.Armed {
			t.Errorf("Arm again: %v", again)
		}
	}
	if tr.Armed {
		t.Error("what was handed in was changed")
	}
	down, _, err := do(t, crash.Arm(well(t, tr, act(pool.Create, 1)), 0), act(pool.Flush, 1))
	if err != api.ErrDown || !down.Down || !same(crash.Arm(down, 7), down) {
		t.Errorf("Arm of one that is down: %v %d", down, err)
	}
}

func TestP17_1_DoAsThePoolDoes(t *testing.T) {
	r := rand.New(rand.NewSource(1))
	tr := start(t, 3, of(1, 1, ""), of(5, 2, "b"))
	armed := crash.Arm(tr, 1<<20)
	left := 1 << 20
	p := tr.P
	for range 400 {
		a := pool.Act{Kind: r.Intn(10), Id: r.Intn(9), Body: strings.Repeat("a", r.Intn(18))}
		want, wantPage, l, wantErr := pool.Do(p, a)
		left -= len(l)
		got, page, err := do(t, tr, a)
		if !same(got, crash.Trial{P: want}) || page != wantPage || err != wantErr {
			t.Fatalf("%v: %v %v %d", a, got, page, err)
		}
		gotArmed, page, err := do(t, armed, a)
		if !same(gotArmed, crash.Trial{P: want, Left: left, Armed: true}) || page != wantPage || err != wantErr {
			t.Fatalf("%v, armed: %v %v %d", a, gotArmed, page, err)
		}
		tr, armed, p = got, gotArmed, want
	}
}

func TestP17_1_ThePowerGoes(t *testing.T) {
	tr := well(t, start(t, 3, of(5, 2, "b")), act(pool.Create, 1), writes(1, "a"), act(pool.Fetch, 5))
	_, _, l, _ := pool.Do(tr.P, act(pool.Flush, 1))
	if len(l) != 10 {
		t.Fatalf("%d operations", len(l))
	}
	for left := range 10 {
		got, page, err := do(t, crash.Arm(tr, left), act(pool.Flush, 1))
		want := crash.Trial{P: tr.P, Armed: true, Down: true}
		want.P.D = journal.Run(tr.P.D, l, left)
		if err != api.ErrDown || page != (api.Page{}) || !same(got, want) {
			t.Errorf("with %d left: %v %v %d", left, got, page, err)
		}
		for _, a := range []pool.Act{act(pool.Read, 1), act(0, 0), act(pool.Age, 0), act(pool.Fetch, 9)} {
			if again, page, err := do(t, got, a); err != api.ErrDown || page != (api.Page{}) || !same(again, got) {
				t.Errorf("%v of one that is down: %v %d", a, page, err)
			}
		}
	}
	got := well(t, crash.Arm(tr, 10), act(pool.Flush, 1))
	if got.Left != 0 || !got.Armed || got.Down {
		t.Errorf("with as many as are left: %v", got)
	}
	got = well(t, got, act(pool.Read, 1), writes(1, "c"), act(pool.Unpin, 5))
	if got, _, err := do(t, got, act(pool.Fetch, 9)); err != api.ErrNone || got.Down {
		t.Errorf("an error, with nothing left: %d", err)
	}
	if _, _, err := do(t, got, act(pool.Flush, 1)); err != api.ErrDown {
		t.Errorf("a Flush, with nothing left: %d", err)
	}
}

func TestP17_1_RoomCutOff(t *testing.T) {
	tr := well(t, start(t, 1, of(5, 2, "b")), act(pool.Create, 1), act(pool.Unpin, 1))
	got, page, err := do(t, crash.Arm(tr, 4), act(pool.Fetch, 5))
	if err != api.ErrDown || page != (api.Page{}) || !same(got.P.F, tr.P.F) || len(got.P.D.Cache) != 1 {
		t.Errorf("room, cut off: %v %v %d", got, page, err)
	}
	got, page, err = do(t, crash.Arm(tr, 12), act(pool.Fetch, 5))
	if err != api.OK || page != of(5, 2, "b") || got.Left != 2 {
		t.Errorf("room, with more than enough: %v %v %d", got, page, err)
	}
}

// reopened is a trial over a disk, as New and the time of the old one would have it.
func reopened(t *testing.T, tr crash.Trial, d api.Disk) crash.Trial {
	t.Helper()
	p, err := pool.Open(d, len(tr.P.F.Pages))
	if err != api.OK {
		t.Fatal(err)
	}
	return crash.Trial{P: pool.Tick(p, tr.P.Now)}
}

func TestP17_2_Crash(t *testing.T) {
	tr := well(t, start(t, 3, of(5, 2, "b")), act(pool.Create, 1), writes(1, "a"))
	tr.P = pool.Tick(tr.P, 77)
	if got := crash.Crash(tr, nil); !same(got, reopened(t, tr, tr.P.D)) || got.P.Now != 77 || len(got.P.F.Pages) != 3 {
		t.Errorf("Crash of one that is not down: %v", got)
	}
	if got := crash.Crash(crash.Arm(tr, 5), nil); got.Armed || got.Left != 0 {
		t.Errorf("Crash of one that is armed: %v", got)
	}
	for left := range 10 {
		down, _, _ := do(t, crash.Arm(tr, left), act(pool.Flush, 1))
		was := fmt.Sprint(down)
		for _, keep := range [][]int{nil, {0}, {1}, {0, 1}, {5, -1}} {
			got := crash.Crash(down, keep)
			if !same(got, reopened(t, tr, disk.Crash(down.P.D, keep))) {
				t.Errorf("Crash behind %d, that keeps %d: %v", left, keep, got)
			}
			well(t, got, act(pool.Fetch, 5))
		}
		if fmt.Sprint(down) != was {
			t.Fatalf("what was handed in was changed: %v", down)
		}
	}
}

func TestP17_2_Cut(t *testing.T) {
	tr := well(t, start(t, 2, of(1, 2, "b")), act(pool.Fetch, 1), writes(1, "a"))
	tr.P = pool.Tick(tr.P, 5)
	cutOff := 0
	for left := range 10 {
		down, _, _ := do(t, crash.Arm(tr, left), act(pool.Flush, 1))
		for _, keep := range [][]int{nil, {0}, {1}, {0, 1}} {
			d := disk.Crash(down.P.D, keep)
			for ops := -1; ops < 7; ops++ {
				half := journal.Run(d, journal.Repair(d), ops)
				for _, keeps := range [][]int{nil, {0}, {1}, {0, 1}} {
					want := reopened(t, tr, disk.Crash(half, keeps))
					if got := crash.Cut(down, keep, ops, keeps); !same(got, want) {
						t.Errorf("Cut behind %d, %d, %d, %d: %v", left, keep, ops, keeps, got)
					}
					if len(half.Cache) > 0 {
						cutOff++
					}
				}
			}
		}
	}
	if cutOff == 0 {
		t.Error("no repair was cut off")
	}
	if got := crash.Cut(crash.Arm(tr, 3), nil, math.MaxInt, nil); !same(got, crash.Crash(tr, nil)) {
		t.Errorf("Cut of one that is not down: %v", got)
	}
	if got := crash.Cut(tr, nil, math.MinInt, nil); !same(got, crash.Crash(tr, nil)) {
		t.Errorf("Cut of one that is not down: %v", got)
	}
}

// past is what a page may be behind a crash: as it was for sure, or as some later act left it.
type past [17][]api.Page

// sure forgets all that was ahead.
func (h *past) sure(id int, p api.Page) { h[id] = []api.Page{p} }

// note adds what an act left in the pool, or, cut off, might have left on the disk.
func (h *past) note(before, after crash.Trial, a pool.Act, err api.Errno) {
	if a.Kind == pool.Delete && err == api.ErrDown {
		h[a.Id] = append(h[a.Id], api.Page{})
	}
	if err != api.OK {
		return
	}
	switch a.Kind {
	case pool.Create, pool.Write:
		at, _ := frames.Find(after.P.F, a.Id)
		h[a.Id] = append(h[a.Id], after.P.F.Pages[at])
	case pool.Flush:
		p, _ := store.Get(after.P.D, a.Id)
		h.sure(a.Id, p)
	case pool.Delete:
		h.sure(a.Id, api.Page{})
	}
}

func subset(r *rand.Rand, n int) []int {
	var l []int
	for i := range n {
		if r.Intn(2) == 0 {
			l = append(l, i)
		}
	}
	return l
}

func TestP17_3_WholePages(t *testing.T) {
	r := rand.New(rand.NewSource(2))
	crashes := 0
	for range 120 {
		tr := start(t, 1+r.Intn(4), of(1, 1, "a"), of(2, 1, "b"))
		var h past
		for id := range h {
			p, _ := store.Get(tr.P.D, id)
			h.sure(id, p)
		}
		for n := range 120 {
			if r.Intn(8) == 0 {
				tr = crash.Arm(tr, r.Intn(25))
			}
			a := pool.Act{Kind: []int{1, 2, 4, 4, 5, 5, 6, 7, 8}[r.Intn(9)], Id: 1 + r.Intn(6), Body: fmt.Sprint(n)}
			got, _, err := do(t, tr, a)
			h.note(tr, got, a, err)
			tr = got
			if !tr.Down && r.Intn(60) > 0 {
				continue
			}
			crashes++
			if r.Intn(2) == 0 {
				tr = crash.Crash(tr, subset(r, 3))
			} else {
				tr = crash.Cut(tr, subset(r, 3), r.Intn(6), subset(r, 3))
			}
			if tr.Down || tr.Armed || tr.P.D.Sectors[0] != strings.Repeat("\x00", 16) {
				t.Fatalf("behind a crash: %v", tr)
			}
			for id := 1; id <= 16; id++ {
				p, err := store.Get(tr.P.D, id)
				if err != api.OK && err != api.ErrNone || !slices.Contains(h[id], p) {
					t.Fatalf("the page %d is %v %d, but was %v", id, p, err, h[id])
				}
				h.sure(id, p)
			}
		}
	}
	if crashes < 100 {
		t.Errorf("only %d crashes", crashes)
	}
}

func TestP17_3_Example(t *testing.T) {
	tr := well(t, start(t, 2), act(pool.Create, 1), writes(1, "a"), act(pool.Flush, 1), writes(1, "b"))
	tr = crash.Crash(tr, nil)
	if got, page, err := do(t, tr, act(pool.Fetch, 1)); err != api.OK || page != of(1, 2, "a") {
		t.Errorf("the page: %v %v %d", got, page, err)
	}
}
