package sched_test

import (
	"fmt"
	"math"
	"math/rand"
	"slices"
	"testing"

	"lockkeeper/api"
	"lockkeeper/device"
	"lockkeeper/disk"
	"lockkeeper/lanes"
	"lockkeeper/sched"
)

// data is a page's 32 bytes that no other number has.
func data(n int) string { return fmt.Sprintf("a%015db%015d", n, n) }

// same holds two values against each other; fmt tells nil and empty lists alike.
func same(a, b any) bool { return fmt.Sprintf("%v", a) == fmt.Sprintf("%v", b) }

func clone(s sched.Sched) sched.Sched {
	s.Lanes.List = slices.Clone(s.Lanes.List)
	for i := range s.Lanes.List {
		s.Lanes.List[i].Costs = slices.Clone(s.Lanes.List[i].Costs)
	}
	s.Jobs = slices.Clone(s.Jobs)
	for i := range s.Jobs {
		s.Jobs[i] = slices.Clone(s.Jobs[i])
	}
	s.Dev.Disk.Sectors = slices.Clone(s.Dev.Disk.Sectors)
	s.Dev.Disk.Cache = slices.Clone(s.Dev.Disk.Cache)
	s.Dev.Flight = slices.Clone(s.Dev.Flight)
	s.Out = slices.Clone(s.Out)
	return s
}

func dev(t *testing.T) device.Device {
	t.Helper()
	d, err := disk.New(35)
	if err != api.OK {
		t.Fatal(err)
	}
	return device.Device{Disk: d}
}

func fresh(t *testing.T, weights ...int) sched.Sched {
	t.Helper()
	s, err := sched.New(dev(t), weights)
	if err != api.OK {
		t.Fatalf("New(%d): %d", weights, err)
	}
	return s
}

func read(who, page int) sched.Job { return sched.Job{Who: who, Kind: device.Read, Page: page} }
func sync(who int) sched.Job       { return sched.Job{Who: who, Kind: device.Sync} }
func write(who, page int, n int) sched.Job {
	return sched.Job{Who: who, Kind: device.Write, Page: page, Data: data(n)}
}

func costOf(kind int) int { return []int{0, 2, 4, 1}[kind] }

func ask(t *testing.T, s sched.Sched, jobs ...sched.Job) sched.Sched {
	t.Helper()
	for _, j := range jobs {
		was := clone(s)
		got, err := sched.Ask(s, j)
		want := clone(s)
		want.Lanes.List[j.Who].Costs = append(want.Lanes.List[j.Who].Costs, costOf(j.Kind))
		want.Jobs[j.Who] = append(want.Jobs[j.Who], j)
		if err != api.OK || !same(got, want) {
			t.Fatalf("Ask(%v): %v %d", j, got, err)
		}
		if !same(s, was) {
			t.Fatalf("what was handed in was changed: %v", s)
		}
		s = got
	}
	return s
}

func pump(t *testing.T, s sched.Sched) sched.Sched {
	t.Helper()
	was := clone(s)
	got := sched.Pump(s)
	if !same(s, was) {
		t.Fatalf("what was handed in was changed: %v", s)
	}
	if !sched.Right(got) {
		t.Fatalf("Pump: %v is not right", got)
	}
	return got
}

// done holds Done to what the device's Finish and Submit tell.
func done(t *testing.T, s sched.Sched, i int, fault bool) (sched.Sched, sched.Job, api.Errno, bool) {
	t.Helper()
	was := clone(s)
	got, j, err, ok := sched.Done(s, i, fault)
	if !same(s, was) {
		t.Fatalf("what was handed in was changed: %v", s)
	}
	if !sched.Right(got) || !same(got.Lanes, was.Lanes) || !same(got.Jobs, was.Jobs) {
		t.Fatalf("Done(%d): %v", i, got)
	}
	d, r, wantErr := device.Finish(was.Dev, i, fault)
	want := was.Out[i]
	out := slices.Delete(was.Out, i, i+1)
	if fault && want.Tries < 3 && d.Next < api.MaxNum {
		d, _, _ = device.Submit(d, want.Kind, want.Page, want.Data)
		want.Tries++
		out = append(out, want)
		if ok || err != api.OK || j != (sched.Job{}) {
			t.Fatalf("Done(%d): %v %d %t of one that is tried again", i, j, err, ok)
		}
	} else {
		want.Data = r.Data
		if !ok || err != wantErr || j != want {
			t.Fatalf("Done(%d): %v %d %t, not %v %d", i, j, err, ok, want, wantErr)
		}
	}
	if !same(got.Dev, d) || !same(got.Out, out) {
		t.Fatalf("Done(%d): %v", i, got)
	}
	return got, j, err, ok
}

// wrong are schedulers that are not right, each by one change of one that is.
func wrong(t *testing.T) []sched.Sched {
	base := ask(t, fresh(t, 1, 2), read(0, 1), write(1, 2, 2), sync(0), read(0, 3), read(1, 4), sync(1))
	base = pump(t, base)
	if !sched.Right(base) || len(base.Out) != 4 || len(base.Jobs[0])+len(base.Jobs[1]) != 2 {
		t.Fatalf("the one to change: %v", base)
	}
	lane := 0
	if len(base.Jobs[0]) == 0 {
		lane = 1
	}
	wait := func(f func(j *sched.Job)) func(s *sched.Sched) {
		return func(s *sched.Sched) { f(&s.Jobs[lane][0]) }
	}
	out := func(f func(j *sched.Job)) func(s *sched.Sched) {
		return func(s *sched.Sched) { f(&s.Out[1]) }
	}
	l := []sched.Sched{{}}
	for _, f := range []func(s *sched.Sched){
		func(s *sched.Sched) { s.Lanes.At = 2 },
		func(s *sched.Sched) { s.Lanes.List[0].Weight = 0 },
		func(s *sched.Sched) { s.Dev.Next = -1 },
		func(s *sched.Sched) { s.Dev.Disk.Sectors = s.Dev.Disk.Sectors[:34] },
		func(s *sched.Sched) { s.Jobs = s.Jobs[:1] },
		func(s *sched.Sched) { s.Jobs = append(s.Jobs, nil) },
		func(s *sched.Sched) { s.Jobs = nil },
		func(s *sched.Sched) { s.Jobs[lane] = s.Jobs[lane][:len(s.Jobs[lane])-1] },
		func(s *sched.Sched) { s.Jobs[lane] = append(s.Jobs[lane], s.Jobs[lane][0]) },
		func(s *sched.Sched) { s.Lanes.List[lane].Costs[0]++ },
		wait(func(j *sched.Job) { j.Who = 1 - j.Who }),
		wait(func(j *sched.Job) { j.Tries = 1 }),
		wait(func(j *sched.Job) { j.Tries = -1 }),
		wait(func(j *sched.Job) { j.Kind = 0 }),
		wait(func(j *sched.Job) { j.Page = 17 }),
		wait(func(j *sched.Job) { j.Page = -1 }),
		wait(func(j *sched.Job) { j.Data += "a" }),
		func(s *sched.Sched) { s.Out = s.Out[:3] },
		func(s *sched.Sched) { s.Out = nil },
		func(s *sched.Sched) { s.Out = append(s.Out, s.Out[0]) },
		func(s *sched.Sched) { s.Dev.Flight = s.Dev.Flight[:3] },
		out(func(j *sched.Job) { j.Who = -1 }),
		out(func(j *sched.Job) { j.Who = 2 }),
		out(func(j *sched.Job) { j.Who = math.MaxInt }),
		out(func(j *sched.Job) { j.Tries = 0 }),
		out(func(j *sched.Job) { j.Tries = 4 }),
		out(func(j *sched.Job) { j.Tries = -1 }),
		out(func(j *sched.Job) { j.Kind++ }),
		out(func(j *sched.Job) { j.Page++ }),
		out(func(j *sched.Job) { j.Data += "a" }),
		func(s *sched.Sched) { s.Out[0], s.Out[1] = s.Out[1], s.Out[0] },
	} {
		s := clone(base)
		f(&s)
		l = append(l, s)
	}
	return l
}

func TestP6_1_New(t *testing.T) {
	d := dev(t)
	d.Next = 7
	s, err := sched.New(d, []int{3, 8})
	want := sched.Sched{Lanes: lanes.Lanes{List: []lanes.Lane{{Weight: 3}, {Weight: 8}}}, Jobs: [][]sched.Job{nil, nil}, Dev: d}
	if err != api.OK || !same(s, want) || !sched.Right(s) {
		t.Errorf("New: %v %d", s, err)
	}
	busy, _, _ := device.Submit(d, device.Sync, 0, "")
	torn := d
	torn.Next = -1
	for i, d := range []device.Device{busy, torn, {}} {
		if s, err := sched.New(d, []int{1}); err != api.ErrArg || !same(s, sched.Sched{}) {
			t.Errorf("New of wrong device %d: %v %d", i, s, err)
		}
	}
	for _, w := range [][]int{nil, {0}, {9}, {1, 1, 1, 1, 1, 1, 1}} {
		if s, err := sched.New(d, w); err != api.ErrArg || !same(s, sched.Sched{}) {
			t.Errorf("New(%d): %v %d", w, s, err)
		}
	}
}

func TestP6_1_Right(t *testing.T) {
	for i, s := range wrong(t) {
		if sched.Right(s) {
			t.Errorf("wrong scheduler %d is right", i)
		}
	}
	s := pump(t, ask(t, fresh(t, 1, 2), read(0, 1), write(1, 2, 2)))
	for _, tries := range []int{1, 2, 3} {
		s := clone(s)
		s.Out[0].Tries = tries
		s.Out[1].Who = 1 - s.Out[1].Who
		if !sched.Right(s) {
			t.Errorf("with %d tries it is not right", tries)
		}
	}
}

func TestP6_1_Ask(t *testing.T) {
	s := ask(t, fresh(t, 1, 1), read(1, 16), write(1, 1, 1), sync(0), read(1, 2))
	a := ask(t, s, read(1, 5))
	ask(t, s, sync(1))
	if a.Jobs[1][3] != read(1, 5) || a.Lanes.List[1].Costs[3] != 2 {
		t.Errorf("a second Ask turned the first one's: %v", a)
	}
	tried := read(0, 1)
	tried.Tries = 1
	less := read(0, 1)
	less.Tries = -1
	short := write(0, 1, 1)
	short.Data = short.Data[1:]
	for _, j := range []sched.Job{
		{}, tried, less, short, read(-1, 1), read(2, 1), read(math.MaxInt, 1), read(0, 0), read(0, 17), write(0, 0, 1), write(0, 17, 1),
		{Kind: device.Sync, Page: 1}, {Kind: device.Sync, Data: data(1)}, {Kind: device.Read, Page: 1, Data: "a"}, {Kind: 4}, {Kind: 4, Page: 1}, {Kind: -1}, {Kind: math.MaxInt},
	} {
		if got, err := sched.Ask(s, j); err != api.ErrArg || !same(got, s) {
			t.Errorf("Ask(%v): %d", j, err)
		}
	}
	for i, s := range wrong(t) {
		if got, err := sched.Ask(s, read(0, 1)); err != api.ErrArg || !same(got, s) {
			t.Errorf("Ask of wrong scheduler %d: %d", i, err)
		}
	}
}

func TestP6_1_AskFull(t *testing.T) {
	s := fresh(t, 1, 1)
	for range 200 {
		var err api.Errno
		if s, err = sched.Ask(s, sync(0)); err != api.OK {
			t.Fatal(err)
		}
	}
	if got, err := sched.Ask(s, sync(0)); err != api.ErrFull || !same(got, s) {
		t.Errorf("the 201st: %d", err)
	}
	if _, err := sched.Ask(s, read(0, 17)); err != api.ErrArg {
		t.Errorf("a wrong one, behind 200: %d", err)
	}
	s = ask(t, s, sync(1))
	ask(t, pump(t, s), sync(0))
}

func TestP6_2_Pump(t *testing.T) {
	s := ask(t, fresh(t, 1, 2), write(0, 1, 1), write(0, 2, 2), write(1, 3, 3), write(1, 4, 4), write(1, 5, 5), read(1, 6))
	s = pump(t, s)
	var pages, tries []int
	for _, j := range s.Out {
		pages, tries = append(pages, j.Page), append(tries, j.Tries)
	}
	if !slices.Equal(pages, []int{1, 3, 4, 2}) || !slices.Equal(tries, []int{1, 1, 1, 1}) || s.Dev.Next != 4 {
		t.Errorf("in flight: the pages %d, tries %d, next %d", pages, tries, s.Dev.Next)
	}
	if again := pump(t, s); !same(again, s) {
		t.Errorf("a second Pump: %v", again)
	}
	s, _, _, _ = done(t, s, 2, false)
	if s = pump(t, s); len(s.Out) != 4 || s.Out[3].Page != 5 || s.Out[3].Who != 1 || s.Out[3].Tries != 1 {
		t.Errorf("behind one that is done: %v", s.Out)
	}
	for i, s := range wrong(t) {
		if got := sched.Pump(s); !same(got, s) {
			t.Errorf("Pump of wrong scheduler %d: %v", i, got)
		}
	}
	idle := fresh(t, 1)
	if got := pump(t, idle); !same(got, idle) {
		t.Errorf("Pump of nothing: %v", got)
	}
}

func TestP6_2_PumpByLanes(t *testing.T) {
	r := rand.New(rand.NewSource(1))
	for range 25 {
		s := fresh(t, 1+r.Intn(8), 1+r.Intn(8), 1+r.Intn(8))
		for n := range 30 {
			who := r.Intn(3)
			s = ask(t, s, []sched.Job{read(who, 1+n%16), write(who, 1+n%16, n), sync(who)}[r.Intn(3)])
		}
		for len(s.Jobs[0])+len(s.Jobs[1])+len(s.Jobs[2]) > 0 {
			l, jobs, out := s.Lanes, clone(s).Jobs, clone(s).Out
			for len(out) < 4 {
				next, lane, _, ok := lanes.Next(l)
				if !ok {
					break
				}
				j := jobs[lane][0]
				j.Tries = 1
				l, jobs[lane], out = next, jobs[lane][1:], append(out, j)
			}
			s = pump(t, s)
			if !same(s.Out, out) || !same(s.Lanes, l) || !same(s.Jobs, jobs) {
				t.Fatalf("Pump: %v, not %v", s.Out, out)
			}
			s, _, _, _ = done(t, s, r.Intn(len(s.Out)), false)
		}
	}
}

func TestP6_2_NoTicketsLeft(t *testing.T) {
	d := dev(t)
	d.Next = api.MaxNum - 2
	s, _ := sched.New(d, []int{1})
	s = pump(t, ask(t, s, read(0, 1), read(0, 2), read(0, 3)))
	if len(s.Out) != 2 || len(s.Jobs[0]) != 1 || s.Dev.Next != api.MaxNum {
		t.Fatalf("in flight: %v", s.Out)
	}
	s, j, err, ok := done(t, s, 0, true)
	if !ok || err != api.ErrFailed || j.Page != 1 || j.Tries != 1 {
		t.Errorf("a fault, without a ticket to try again: %v %d %t", j, err, ok)
	}
	if s = pump(t, s); len(s.Out) != 1 || len(s.Jobs[0]) != 1 {
		t.Errorf("in flight: %v", s.Out)
	}
}

func TestP6_3_Done(t *testing.T) {
	s := pump(t, ask(t, fresh(t, 1, 1), write(0, 7, 1), read(1, 7), read(0, 7), sync(1)))
	for _, i := range []int{-1, 4, math.MaxInt, math.MinInt} {
		if got, j, err, ok := sched.Done(s, i, i < 0); ok || err != api.ErrArg || j != (sched.Job{}) || !same(got, s) {
			t.Errorf("Done(%d): %v %d %t", i, j, err, ok)
		}
	}
	s, j, err, ok := done(t, s, 0, false)
	if !ok || err != api.OK || j.Data != data(1) || j.Who != 0 || j.Tries != 1 {
		t.Errorf("a Write: %v %d %t", j, err, ok)
	}
	s, j, _, _ = done(t, s, 0, false)
	if j.Data != data(1) || j.Who != 1 || j.Kind != device.Read {
		t.Errorf("a Read: %v", j)
	}
	for i, s := range wrong(t) {
		if got, j, err, ok := sched.Done(s, 0, true); ok || err != api.ErrArg || j != (sched.Job{}) || !same(got, s) {
			t.Errorf("Done of wrong scheduler %d: %v %d %t", i, j, err, ok)
		}
	}
}

func TestP6_3_Retries(t *testing.T) {
	s := pump(t, ask(t, fresh(t, 1, 1), write(0, 7, 1), read(1, 7), read(0, 9)))
	s, _, _, ok := done(t, s, 0, true)
	if ok || len(s.Out) != 3 || s.Out[2].Kind != device.Write || s.Out[2].Tries != 2 || s.Dev.Next != 4 {
		t.Fatalf("behind one fault: %v %t", s.Out, ok)
	}
	s, _, _, ok = done(t, s, 2, true)
	if ok || s.Out[2].Tries != 3 || s.Dev.Next != 5 {
		t.Fatalf("behind two faults: %v %t", s.Out, ok)
	}
	if _, j, err, ok := done(t, s, 2, false); !ok || err != api.OK || j.Tries != 3 || j.Data != data(1) {
		t.Errorf("well, with the third try: %v %d %t", j, err, ok)
	}
	s, j, err, ok := done(t, s, 2, true)
	if !ok || err != api.ErrFailed || j.Tries != 3 || j.Data != data(1) || len(s.Out) != 2 {
		t.Errorf("behind three faults: %v %d %t", j, err, ok)
	}
}

func TestP6_3_FullDisk(t *testing.T) {
	d := dev(t)
	d.Disk.Cache = slices.Repeat([]api.Write{{At: 0, Data: d.Disk.Sectors[0]}}, 199)
	s, _ := sched.New(d, []int{1})
	s, j, err, ok := done(t, pump(t, ask(t, s, write(0, 1, 1))), 0, false)
	if !ok || err != api.ErrFull || j.Tries != 1 || len(s.Out) != 0 || len(s.Dev.Disk.Cache) != 200 {
		t.Errorf("a Write on a full disk: %v %d %t", j, err, ok)
	}
}

func TestP6_3_Crash(t *testing.T) {
	s := ask(t, fresh(t, 3, 5), write(0, 1, 1), write(1, 2, 2), read(0, 3), read(0, 4), sync(1), read(1, 5))
	s, _, _, _ = done(t, pump(t, s), 1, false)
	was := clone(s)
	for _, keep := range [][]int{nil, {1}, {0, 1}} {
		got := sched.Crash(s, keep)
		want := fresh(t, 3, 5)
		want.Dev = device.Crash(was.Dev, keep)
		if !same(got, want) || !sched.Right(got) {
			t.Errorf("Crash that keeps %d: %v", keep, got)
		}
		if !same(s, was) {
			t.Errorf("what was handed in was changed: %v", s)
		}
	}
	for i, s := range wrong(t) {
		if got := sched.Crash(s, nil); !same(got, s) {
			t.Errorf("Crash of wrong scheduler %d: %v", i, got)
		}
	}
}

func TestP6_4_EachJobOnce(t *testing.T) {
	r := rand.New(rand.NewSource(2))
	for range 12 {
		s := fresh(t, 1+r.Intn(8), 1+r.Intn(8))
		asked, told := 0, make([]int, 200)
		faults := make([]int, 200)
		for asked < 100 || len(s.Out) > 0 || len(s.Jobs[0])+len(s.Jobs[1]) > 0 {
			switch {
			case asked < 100 && r.Intn(2) == 0:
				s = ask(t, s, write(asked%2, 1, asked))
				asked++
			case len(s.Dev.Disk.Cache) > 190:
				s.Dev.Disk = disk.Sync(s.Dev.Disk)
			case len(s.Out) > 0:
				i := r.Intn(len(s.Out))
				n := -1
				fmt.Sscanf(s.Out[i].Data[17:], "%d", &n)
				fault := r.Intn(3) > 0
				if fault {
					faults[n]++
				}
				var ok bool
				s, _, _, ok = done(t, s, i, fault)
				if ok {
					told[n]++
				} else if !fault || faults[n] >= 3 {
					t.Fatalf("the job %d, behind %d faults, was not told", n, faults[n])
				}
			}
			s = pump(t, s)
			if len(s.Out) < 4 && len(s.Jobs[0])+len(s.Jobs[1]) > 0 {
				t.Fatalf("behind a Pump something waits, and %d are in flight", len(s.Out))
			}
		}
		for n, times := range told[:asked] {
			if times != 1 {
				t.Errorf("the job %d was told %d times", n, times)
			}
		}
	}
}

func TestP6_4_Example(t *testing.T) {
	s := pump(t, ask(t, fresh(t, 1), write(0, 1, 1)))
	told := 0
	for _, fault := range []bool{true, true, false} {
		var ok bool
		if s, _, _, ok = done(t, s, 0, fault); ok {
			told++
		}
	}
	if told != 1 || len(s.Out) != 0 {
		t.Errorf("told %d times, in flight %v", told, s.Out)
	}
}

func TestP6_2_SpareRoomIsLeft(t *testing.T) {
	s := pump(t, ask(t, fresh(t, 1), read(0, 1)))
	s = ask(t, s, read(0, 2), read(0, 3))
	s.Out = append(make([]sched.Job, 0, 9), s.Out...)
	s.Dev.Flight = append(make([]device.Request, 0, 9), s.Dev.Flight...)
	s.Jobs[0] = append(make([]sched.Job, 0, 9), s.Jobs[0]...)
	s.Lanes.List[0].Costs = append(make([]int, 0, 9), s.Lanes.List[0].Costs...)
	pump(t, s)
	ask(t, s, read(0, 4))
	done(t, s, 0, true)
	if s.Out[:2][1] != (sched.Job{}) || s.Dev.Flight[:2][1] != (device.Request{}) || s.Jobs[0][:3][2] != (sched.Job{}) || s.Lanes.List[0].Costs[:3][2] != 0 {
		t.Errorf("something is written behind what was handed in: %v", s)
	}
}
