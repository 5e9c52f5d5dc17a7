package machine_test

import (
	"fmt"
	"math"
	"math/rand"
	"slices"
	"strings"
	"testing"

	"lockkeeper/admit"
	"lockkeeper/api"
	"lockkeeper/bank"
	"lockkeeper/disk"
	"lockkeeper/machine"
	"lockkeeper/ops"
	"lockkeeper/pool"
	"lockkeeper/store"
)

const (
	idle = iota
	ticket
	latched
	pin
	wait
	work
	leave
)

// same holds two values against each other; fmt tells nil and empty lists alike.
func same(a, b any) bool { return fmt.Sprintf("%v", a) == fmt.Sprintf("%v", b) }

func of(id, version int, body string) api.Page {
	return api.Page{Id: id, Version: version, Body: body}
}

func op(kind, id int) ops.Op            { return ops.Op{Kind: kind, Id: id} }
func writes(id int, body string) ops.Op { return ops.Op{Kind: ops.Write, Id: id, Body: body} }

func newDisk(t *testing.T, pages ...api.Page) api.Disk {
	t.Helper()
	d, err := disk.New(35)
	for _, p := range pages {
		d, err = store.Set(d, p)
	}
	if err != api.OK {
		t.Fatal(err)
	}
	return d
}

func start(t *testing.T, d api.Disk, n int, lists ...[]ops.Op) *machine.Machine {
	t.Helper()
	m, err := machine.New(d, n, lists)
	if err != api.OK || m == nil {
		t.Fatalf("New: %d", err)
	}
	return m
}

// step is a Step that does something, or nothing, and the state behind it.
func step(t *testing.T, m *machine.Machine, who int, did bool, state int) {
	t.Helper()
	clock := m.Clock()
	if got := m.Step(who); got != did || m.State(who) != state {
		t.Fatalf("Step(%d): %t, then the state %d; not %t, %d", who, got, m.State(who), did, state)
	}
	if m.Clock() != clock+1 {
		t.Fatalf("Step(%d): the clock went from %d to %d", who, clock, m.Clock())
	}
}

func steps(t *testing.T, m *machine.Machine, who int, states ...int) {
	t.Helper()
	for _, s := range states {
		step(t, m, who, true, s)
	}
}

func nothing(t *testing.T, m *machine.Machine, who int) {
	t.Helper()
	step(t, m, who, false, m.State(who))
}

func history(t *testing.T, m *machine.Machine, want ...machine.Event) {
	t.Helper()
	if got := m.History(); !slices.Equal(got, want) {
		t.Errorf("History: %v, not %v", got, want)
	}
}

func event(who int, o ops.Op, e api.Errno, p api.Page, began, done, ended int) machine.Event {
	return machine.Event{Who: who, Op: o, Result: ops.Result{E: e, Page: p}, Began: began, Done: done, Ended: ended}
}

func TestP19_1_New(t *testing.T) {
	d := newDisk(t, of(3, 2, "a"))
	list := slices.Repeat([]ops.Op{op(ops.Read, 1)}, 60)
	for n := 1; n <= 4; n++ {
		m := start(t, d, 5, slices.Repeat([][]ops.Op{list}, n)...)
		p, _ := pool.Open(d, 5)
		if !same(m.Pool(), p) || !same(m.Hall(), admit.Hall{Frames: 5, Budget: 1}) || m.Clock() != 0 || m.Flight() != 0 || len(m.History()) != 0 {
			t.Errorf("New of %d workers: %v", n, m)
		}
		for who := -1; who <= 5; who++ {
			left := 0
			if who >= 0 && who < n {
				left = 60
			}
			if m.State(who) != idle || m.Left(who) != left {
				t.Errorf("the worker %d: %d %d", who, m.State(who), m.Left(who))
			}
		}
	}
	start(t, d, 1, nil)
	waits, _ := disk.Put(d, api.Write{At: 0, Data: d.Sectors[0]})
	for i, c := range []struct {
		d    api.Disk
		n    int
		work [][]ops.Op
	}{
		{d, 1, nil}, {d, 1, make([][]ops.Op, 5)}, {d, 1, [][]ops.Op{append(slices.Clone(list), list[0])}}, {d, 1, [][]ops.Op{nil, append(slices.Clone(list), list[0])}},
		{d, 0, make([][]ops.Op, 1)}, {d, 9, make([][]ops.Op, 1)}, {d, -1, make([][]ops.Op, 1)}, {api.Disk{}, 1, make([][]ops.Op, 1)}, {waits, 1, make([][]ops.Op, 1)},
	} {
		if m, err := machine.New(c.d, c.n, c.work); err != api.ErrArg || m != nil {
			t.Errorf("wrong New %d: %d", i, err)
		}
	}
}

func TestP19_1_NewRecovers(t *testing.T) {
	d := newDisk(t)
	d.Sectors[0] = "J\x03" + strings.Repeat("\x00", 14)
	m := start(t, d, 1, nil)
	if m.Pool().D.Sectors[0] != strings.Repeat("\x00", 16) {
		t.Errorf("the journal's head: %q", m.Pool().D.Sectors[0])
	}
}

func TestP19_1_NoSuchWorker(t *testing.T) {
	m := start(t, newDisk(t), 2, []ops.Op{op(ops.New, 1)}, nil)
	for _, who := range []int{-1, 2, 4, math.MaxInt, math.MinInt} {
		if m.Step(who) || m.State(who) != 0 || m.Left(who) != 0 {
			t.Errorf("the worker %d", who)
		}
	}
	if m.Clock() != 0 {
		t.Errorf("the clock: %d", m.Clock())
	}
	nothing(t, m, 1)
}

func TestP19_1_StepsOfNew(t *testing.T) {
	m := start(t, newDisk(t), 1, []ops.Op{op(ops.New, 1), op(ops.New, 1)})
	steps(t, m, 0, ticket)
	if h := m.Hall(); !same(h, admit.Hall{Frames: 1, Budget: 1, Clients: []bank.Client{{Who: 0, Claim: 1}}}) {
		t.Errorf("the hall: %v", h)
	}
	steps(t, m, 0, latched, pin, work)
	if h := m.Hall(); !same(h.Clients, []bank.Client{{Who: 0, Claim: 1, Held: 1}}) {
		t.Errorf("the hall: %v", h)
	}
	if m.Left(0) != 2 || len(m.Pages().Pages) != 0 {
		t.Errorf("ahead of the work: %d left, %v", m.Left(0), m.Pages())
	}
	steps(t, m, 0, leave)
	if m.Left(0) != 2 || len(m.History()) != 0 || !same(m.Pages().Pages, []api.Page{of(1, 1, "")}) {
		t.Errorf("behind the work: %d left, %v", m.Left(0), m.Pages())
	}
	steps(t, m, 0, idle)
	if m.Left(0) != 1 || !same(m.Hall(), admit.Hall{Frames: 1, Budget: 1}) {
		t.Errorf("behind it all: %d left, %v", m.Left(0), m.Hall())
	}
	history(t, m, event(0, op(ops.New, 1), api.OK, of(1, 1, ""), 0, 4, 5))
	steps(t, m, 0, ticket, latched, pin, work, leave, idle)
	nothing(t, m, 0)
	history(t, m, event(0, op(ops.New, 1), api.OK, of(1, 1, ""), 0, 4, 5), event(0, op(ops.New, 1), api.ErrThere, api.Page{}, 6, 10, 11))
	for _, f := range m.Pool().F.Clock.Frames {
		if f.Pins != 0 {
			t.Errorf("pins are left: %v", m.Pool().F)
		}
	}
}

func TestP19_1_StepsOfReads(t *testing.T) {
	m := start(t, newDisk(t, of(3, 2, "a")), 2, []ops.Op{op(ops.Read, 3), writes(3, "b"), op(ops.Read, 9)})
	steps(t, m, 0, ticket, latched, pin, wait)
	nothing(t, m, 0)
	if m.Flight() != 0 || m.Finish(0, false) {
		t.Errorf("in flight ahead of a Pump: %d", m.Flight())
	}
	m.Pump()
	if m.Flight() != 1 || m.Finish(1, false) || m.Finish(-1, false) || m.Finish(math.MaxInt, true) {
		t.Errorf("in flight: %d", m.Flight())
	}
	nothing(t, m, 0)
	if !m.Finish(0, false) || m.State(0) != work || m.Flight() != 0 || m.Clock() != 6 {
		t.Errorf("behind Finish: the state %d, %d in flight, the clock %d", m.State(0), m.Flight(), m.Clock())
	}
	steps(t, m, 0, leave, idle)
	// It is in a frame now.
	steps(t, m, 0, ticket, latched, pin, work, leave, idle)
	steps(t, m, 0, ticket, latched, pin, wait)
	m.Pump()
	m.Finish(0, false)
	steps(t, m, 0, leave, idle)
	history(t, m,
		event(0, op(ops.Read, 3), api.OK, of(3, 2, "a"), 0, 6, 7),
		event(0, writes(3, "b"), api.OK, of(3, 3, "b"), 8, 12, 13),
		event(0, op(ops.Read, 9), api.ErrNone, api.Page{}, 14, 18, 19),
	)
	if p, _ := store.Get(m.Pool().D, 3); p != of(3, 2, "a") {
		t.Errorf("on the disk: %v", p)
	}
}

func TestP19_1_StepsOfTheOthers(t *testing.T) {
	long := strings.Repeat("a", 17)
	m := start(t, newDisk(t, of(3, 2, "a"), of(4, api.MaxNum, "z")), 2, []ops.Op{op(ops.Delete, 3), op(ops.Delete, 3), op(ops.New, 3), writes(3, long), op(ops.Delete, 3), writes(4, "y"), op(ops.New, 4)})
	steps(t, m, 0, ticket, latched, pin, work, leave, idle)
	if l := store.List(m.Pool().D); len(l) != 1 {
		t.Errorf("behind a Delete: %v", l)
	}
	for range 4 {
		steps(t, m, 0, ticket, latched, pin, work, leave, idle)
	}
	steps(t, m, 0, ticket, latched, pin, wait)
	m.Pump()
	m.Finish(0, false)
	steps(t, m, 0, leave, idle)
	steps(t, m, 0, ticket, latched, pin, work, leave, idle)
	var told []ops.Result
	for _, e := range m.History() {
		told = append(told, e.Result)
	}
	if !slices.Equal(told, []ops.Result{{}, {E: api.ErrNone}, {Page: of(3, 1, "")}, {E: api.ErrLong}, {}, {E: api.ErrFull}, {E: api.ErrThere}}) {
		t.Errorf("told: %v", told)
	}
	if !same(m.Pages().Pages, []api.Page{of(4, api.MaxNum, "z")}) {
		t.Errorf("the pages: %v", m.Pages())
	}
}

func TestP19_1_WrongOps(t *testing.T) {
	list := []ops.Op{{}, op(5, 1), op(-1, 1), op(ops.Read, 0), op(ops.New, 17), op(ops.Write, -1), op(math.MaxInt, math.MinInt)}
	m := start(t, newDisk(t), 1, list, []ops.Op{op(ops.New, 1)})
	var want []machine.Event
	for i, o := range list {
		steps(t, m, 0, ticket, leave, idle)
		want = append(want, event(0, o, api.ErrArg, api.Page{}, 3*i, 3*i+1, 3*i+2))
	}
	history(t, m, want...)
	steps(t, m, 1, ticket, latched, pin, work, leave, idle)
	if !same(m.Hall(), admit.Hall{Frames: 1, Budget: 1}) {
		t.Errorf("the hall: %v", m.Hall())
	}
}

func TestP19_1_WrongOpsWaitForTickets(t *testing.T) {
	m := start(t, newDisk(t), 1, []ops.Op{op(ops.New, 1)}, []ops.Op{op(ops.New, 2)}, []ops.Op{op(9, 9)})
	steps(t, m, 0, ticket)
	steps(t, m, 1, ticket)
	steps(t, m, 2, ticket)
	nothing(t, m, 2)
	if h := m.Hall(); len(h.Clients) != 2 || len(h.Queue) != 1 || h.Queue[0].Who != 2 {
		t.Errorf("the hall: %v", h)
	}
	steps(t, m, 0, latched, pin, work)
	steps(t, m, 1, latched, pin)
	nothing(t, m, 1) // there is no frame
	steps(t, m, 0, leave)
	nothing(t, m, 1)
	nothing(t, m, 2)
	steps(t, m, 0, idle)
	steps(t, m, 2, leave, idle)
	steps(t, m, 1, work, leave, idle)
	if l := m.History(); len(l) != 3 || l[0].Who != 0 || l[1].Who != 2 || l[2].Who != 1 || l[1].Result.E != api.ErrArg {
		t.Errorf("History: %v", l)
	}
}

func TestP19_1_Latches(t *testing.T) {
	m := start(t, newDisk(t, of(3, 1, "")), 4, []ops.Op{op(ops.Read, 3)}, []ops.Op{op(ops.Read, 3)}, []ops.Op{op(ops.Delete, 3)}, []ops.Op{op(ops.Read, 3)})
	for who := range 4 {
		steps(t, m, who, ticket, latched)
	}
	nothing(t, m, 2)
	nothing(t, m, 3) // it does not pass who waits to be alone
	steps(t, m, 1, pin, wait)
	steps(t, m, 0, pin, wait)
	m.Pump()
	if m.Flight() != 2 {
		t.Fatalf("in flight: %d", m.Flight())
	}
	m.Finish(1, false)
	if m.State(0) != wait || m.State(1) != work {
		t.Errorf("the states: %d %d", m.State(0), m.State(1))
	}
	m.Finish(0, false)
	steps(t, m, 0, leave, idle)
	nothing(t, m, 2)
	steps(t, m, 1, leave)
	nothing(t, m, 2)
	steps(t, m, 1, idle)
	steps(t, m, 2, pin, work)
	nothing(t, m, 3)
	steps(t, m, 2, leave, idle)
	steps(t, m, 3, pin, wait)
	m.Pump()
	m.Finish(0, false)
	steps(t, m, 3, leave, idle)
	if l := m.History(); l[3].Result.E != api.ErrNone || l[2].Result.E != api.OK {
		t.Errorf("History: %v", l)
	}
}

func TestP19_1_EachOtherKindIsAlone(t *testing.T) {
	for kind := ops.New; kind <= ops.Delete; kind++ {
		for other := ops.New; other <= ops.Delete; other++ {
			m := start(t, newDisk(t), 4, []ops.Op{op(kind, 5)}, []ops.Op{op(other, 5)}, []ops.Op{op(other, 6)})
			for who := range 3 {
				steps(t, m, who, ticket, latched)
			}
			steps(t, m, 0, pin)
			steps(t, m, 2, pin)
			if both := kind == ops.Read && other == ops.Read; m.Step(1) != both {
				t.Errorf("a %d behind a %d: not %t", other, kind, both)
			}
		}
	}
}

func TestP19_1_Faults(t *testing.T) {
	m := start(t, newDisk(t, of(3, 2, "a")), 2, []ops.Op{op(ops.Read, 3), writes(3, "b")}, []ops.Op{op(ops.Read, 3)})
	steps(t, m, 0, ticket, latched, pin, wait)
	steps(t, m, 1, ticket, latched, pin, wait)
	m.Pump()
	// What is tried again stands behind the other one.
	if !m.Finish(0, true) || m.State(0) != wait || m.Flight() != 2 {
		t.Fatalf("behind one fault: the state %d, %d in flight", m.State(0), m.Flight())
	}
	m.Finish(0, false)
	if m.State(1) != work || m.State(0) != wait {
		t.Fatalf("the states: %d %d", m.State(0), m.State(1))
	}
	nothing(t, m, 0)
	m.Finish(0, true)
	if m.State(0) != wait || m.Flight() != 1 {
		t.Fatalf("behind two faults: the state %d, %d in flight", m.State(0), m.Flight())
	}
	if !m.Finish(0, true) || m.State(0) != leave || m.Flight() != 0 || m.Finish(0, true) {
		t.Fatalf("behind three faults: the state %d, %d in flight", m.State(0), m.Flight())
	}
	steps(t, m, 0, idle)
	steps(t, m, 1, leave, idle)
	steps(t, m, 0, ticket, latched, pin, work, leave, idle)
	history(t, m,
		event(0, op(ops.Read, 3), api.ErrFailed, api.Page{}, 0, 8, 9),
		event(1, op(ops.Read, 3), api.OK, of(3, 2, "a"), 4, 10, 11),
		event(0, writes(3, "b"), api.OK, of(3, 3, "b"), 12, 16, 17),
	)
}

func TestP19_1_Corrupt(t *testing.T) {
	d := newDisk(t, of(3, 2, "a"))
	d.Sectors[7] = strings.Repeat("z", 16)
	m := start(t, d, 2, []ops.Op{op(ops.Read, 3), op(ops.New, 3), op(ops.Delete, 3), writes(3, "b")})
	for m.Left(0) > 0 {
		m.Step(0)
		m.Pump()
		m.Finish(0, false)
	}
	var told []api.Errno
	for _, e := range m.History() {
		told = append(told, e.Result.E)
	}
	if !slices.Equal(told, []api.Errno{api.ErrCorrupt, api.ErrCorrupt, api.ErrNone, api.ErrCorrupt}) {
		t.Errorf("told: %d", told)
	}
}

func TestP19_1_Age(t *testing.T) {
	m := start(t, newDisk(t), 3, []ops.Op{op(ops.New, 1), op(ops.New, 2), op(ops.Delete, 1)})
	for range 6 {
		m.Step(0)
	}
	m.Age(2)
	for range 6 {
		m.Step(0)
	}
	if m.Pool().Now != 1 || len(store.List(m.Pool().D)) != 0 {
		t.Errorf("at 1: %v", m.Pool())
	}
	m.Age(2) // 1 is dirty since 0, 2 since 1, and it is 2
	if l := store.List(m.Pool().D); !slices.Equal(l, []api.Page{of(1, 1, "")}) || m.Pool().Now != 2 {
		t.Errorf("at 2: %v", l)
	}
	m.Age(-1)
	m.Age(math.MaxInt)
	if l := store.List(m.Pool().D); len(l) != 1 || m.Pool().Now != 4 || m.Clock() != 12 {
		t.Errorf("at 4: %v", m.Pool())
	}
	m.Age(0)
	if l := store.List(m.Pool().D); len(l) != 2 {
		t.Errorf("at 5: %v", l)
	}
}

// A worker whose page was written back, and has left its frame, reads it by the device again.
func TestP19_1_TheDeviceHasThePoolsDisk(t *testing.T) {
	m := start(t, newDisk(t), 1, []ops.Op{op(ops.New, 1), op(ops.New, 2), op(ops.Read, 1)})
	for range 12 {
		m.Step(0)
	}
	if l := store.List(m.Pool().D); !slices.Equal(l, []api.Page{of(1, 1, "")}) {
		t.Errorf("on the disk: %v", l)
	}
	steps(t, m, 0, ticket, latched, pin, wait)
	m.Pump()
	m.Finish(0, false)
	steps(t, m, 0, leave, idle)
	if l := m.History(); l[2].Result.Page != of(1, 1, "") {
		t.Errorf("History: %v", l)
	}
}

func TestP19_2_Pages(t *testing.T) {
	m := start(t, newDisk(t, of(2, 1, "a"), of(7, 4, "b"), of(16, 1, "")), 2, []ops.Op{writes(7, "c"), op(ops.New, 3), op(ops.Delete, 2)})
	want := []api.Page{of(2, 1, "a"), of(7, 4, "b"), of(16, 1, "")}
	if got := m.Pages(); !slices.Equal(got.Pages, want) {
		t.Errorf("Pages: %v", got)
	}
	for m.Left(0) > 0 {
		m.Step(0)
		m.Pump()
		m.Finish(0, false)
	}
	if got := m.Pages(); !slices.Equal(got.Pages, []api.Page{of(3, 1, ""), of(7, 5, "c"), of(16, 1, "")}) || !ops.Right(got) {
		t.Errorf("Pages: %v", got)
	}
}

func TestP19_2_AllPages(t *testing.T) {
	var list []ops.Op
	var want []api.Page
	for id := 1; id <= 16; id++ {
		list = append(list, op(ops.New, id), writes(id, "a"))
		want = append(want, of(id, 2, "a"))
	}
	m := start(t, newDisk(t), 2, list)
	for m.Left(0) > 0 {
		m.Step(0)
	}
	if got := m.Pages(); !slices.Equal(got.Pages, want) {
		t.Errorf("Pages: %v", got)
	}
}

func TestP19_2_NewMemory(t *testing.T) {
	d := newDisk(t, of(2, 1, "a"))
	list := []ops.Op{op(ops.Read, 2), op(ops.New, 3), op(ops.Read, 2)}
	m := start(t, d, 1, list, []ops.Op{op(ops.New, 4)}, []ops.Op{op(ops.New, 5)})
	for range 4 {
		m.Step(0)
	}
	m.Pump()
	m.Finish(0, false)
	for range 8 {
		m.Step(0)
	}
	for who := range 3 {
		m.Step(who)
	}
	was := fmt.Sprint(m.Pool(), m.Hall(), m.History(), m.Pages())
	m.History()[0].Who = 9
	m.Pages().Pages[0].Id = 9
	h := m.Hall()
	h.Clients[0].Held, h.Queue[0].Claim = 9, 9
	p := m.Pool()
	p.F.Dirty[0].Since = 9
	p.D.Sectors[0], p.F.Pages[0].Body, p.F.Clock.Frames[0].Pins, p.F.Table.Slots[3].Frame = "x", "y", 9, 9
	if got := fmt.Sprint(m.Pool(), m.Hall(), m.History(), m.Pages()); got != was {
		t.Errorf("what was told turns the machine: %s, not %s", got, was)
	}
	if !same(d, newDisk(t, of(2, 1, "a"))) || !slices.Equal(list, []ops.Op{op(ops.Read, 2), op(ops.New, 3), op(ops.Read, 2)}) {
		t.Error("what was handed in was changed")
	}
}

func anyWork(r *rand.Rand, workers, pages int) [][]ops.Op {
	lists := make([][]ops.Op, workers)
	for i := range lists {
		for n := range r.Intn(14) {
			lists[i] = append(lists[i], ops.Op{Kind: r.Intn(5), Id: r.Intn(pages + 1), Body: fmt.Sprint(i, "-", n)})
		}
	}
	return lists
}

// oneByOne does the events on a map, in the order in which they were Done, but those that the device failed.
func oneByOne(t *testing.T, was ops.Map, m *machine.Machine) {
	t.Helper()
	l := m.History()
	slices.SortStableFunc(l, func(a, b machine.Event) int { return a.Done - b.Done })
	for i, e := range l {
		if e.Began >= e.Done || e.Done >= e.Ended || e.Ended >= m.Clock() {
			t.Fatalf("the times of %v", e)
		}
		if e.Result == (ops.Result{E: api.ErrFailed}) {
			continue
		}
		var r ops.Result
		if was, r = ops.Do(was, e.Op); r != e.Result {
			t.Fatalf("the event %d of %v tells %v, not %v", i, l, e.Result, r)
		}
	}
	if !same(was, m.Pages()) {
		t.Fatalf("the pages are %v, not %v", m.Pages(), was)
	}
}

// safe holds the hall to the pins: who pins is a client, and not more than one frame each.
func safe(t *testing.T, m *machine.Machine, workers int) {
	t.Helper()
	h := m.Hall()
	if !admit.Right(h) {
		t.Fatalf("the hall: %v", h)
	}
	for who := range workers {
		i := slices.IndexFunc(h.Clients, func(c bank.Client) bool { return c.Who == who })
		state := m.State(who)
		if held := i >= 0 && h.Clients[i].Held == 1; held && state < wait || !held && (state == wait || state == work) {
			t.Fatalf("the worker %d, in the state %d: %v", who, state, h)
		}
		if i < 0 && state > ticket {
			t.Fatalf("the worker %d, in the state %d, has no ticket: %v", who, state, h)
		}
	}
}

func TestP19_3_WhateverHappens(t *testing.T) {
	r := rand.New(rand.NewSource(1))
	failed := 0
	for range 150 {
		workers := 1 + r.Intn(4)
		lists := anyWork(r, workers, 1+r.Intn(6))
		total := 0
		for _, l := range lists {
			total += len(l)
		}
		m := start(t, newDisk(t, of(1, 5, "a"), of(2, 1, "b")), 1+r.Intn(4), lists...)
		was := m.Pages()
		faulty := 2 + r.Intn(4)
		for range 300 {
			switch n := r.Intn(workers + 3); {
			case n < workers:
				m.Step(n)
			case n == workers:
				m.Pump()
			case n == workers+1:
				m.Finish(r.Intn(4), r.Intn(faulty) > 0)
			case r.Intn(4) == 0:
				m.Age(r.Intn(4))
			}
			safe(t, m, workers)
		}
		for len(m.History()) < total {
			did := false
			for who := range workers {
				did = m.Step(who) || did
			}
			m.Pump()
			did = m.Finish(0, r.Intn(faulty) > 0) || did
			if !did {
				t.Fatalf("nobody can go on: %v", m)
			}
			safe(t, m, workers)
		}
		for who := range workers {
			nothing(t, m, who)
			if m.Left(who) != 0 || m.State(who) != idle {
				t.Fatalf("the worker %d: %d left", who, m.Left(who))
			}
			var done []ops.Op
			for _, e := range m.History() {
				if e.Who == who {
					done = append(done, e.Op)
				}
				if e.Result.E == api.ErrFailed {
					failed++
				}
			}
			if !slices.Equal(done, lists[who]) {
				t.Fatalf("the worker %d did %v, not %v", who, done, lists[who])
			}
		}
		oneByOne(t, was, m)
	}
	if failed == 0 {
		t.Error("the device never failed for good")
	}
}

func TestP19_3_Example(t *testing.T) {
	m := start(t, newDisk(t), 1, []ops.Op{op(ops.New, 1)})
	did := 0
	for range 20 {
		if m.Step(0) {
			did++
		}
	}
	if did != 6 || len(m.History()) != 1 {
		t.Errorf("%d steps did something, %v", did, m.History())
	}
}
