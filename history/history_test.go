package history_test

import (
	"fmt"
	"math"
	"math/rand"
	"slices"
	"strings"
	"testing"

	"lockkeeper/api"
	"lockkeeper/disk"
	"lockkeeper/history"
	"lockkeeper/machine"
	"lockkeeper/ops"
	"lockkeeper/store"
)

// same holds two values against each other; fmt tells nil and empty lists alike.
func same(a, b any) bool { return fmt.Sprintf("%v", a) == fmt.Sprintf("%v", b) }

func of(id, version int, body string) api.Page {
	return api.Page{Id: id, Version: version, Body: body}
}

func op(kind, id int) ops.Op            { return ops.Op{Kind: kind, Id: id} }
func writes(id int, body string) ops.Op { return ops.Op{Kind: ops.Write, Id: id, Body: body} }
func tells(p api.Page) ops.Result       { return ops.Result{Page: p} }
func fails(e api.Errno) ops.Result      { return ops.Result{E: e} }

func mapOf(pages ...api.Page) ops.Map { return ops.Map{Pages: pages} }

// times is an event of which the times alone count.
func times(who, began, done, ended int) machine.Event {
	return machine.Event{Who: who, Began: began, Done: done, Ended: ended}
}

// at is an event that began and ended just around its being Done, each by a worker of its own.
func at(done int, o ops.Op, r ops.Result) machine.Event {
	return machine.Event{Who: done, Op: o, Result: r, Began: done - 1, Done: done, Ended: done + 1}
}

func TestP21_1_Sort(t *testing.T) {
	l := []machine.Event{times(0, 0, 9, 10), times(1, 0, 3, 4), times(2, 0, 9, 11), times(3, 0, -4, 4), times(4, 0, 3, 9), times(5, 0, 9, 9), times(6, 0, math.MaxInt, 0), times(7, 0, math.MinInt, 0)}
	was := slices.Clone(l)
	var who []int
	for _, e := range history.Sort(l) {
		who = append(who, e.Who)
	}
	if !slices.Equal(who, []int{7, 3, 1, 4, 0, 2, 5, 6}) {
		t.Errorf("Sort: %d", who)
	}
	if !slices.Equal(l, was) {
		t.Errorf("what was handed in was changed: %v", l)
	}
	if len(history.Sort(nil)) != 0 {
		t.Error("Sort of none")
	}
	one := history.Sort(l[:1])
	one[0].Who = 77
	if l[0].Who == 77 {
		t.Error("Sort shares its memory")
	}
}

func TestP21_1_SortIsStable(t *testing.T) {
	r := rand.New(rand.NewSource(1))
	for range 50 {
		var l []machine.Event
		for n := range 60 {
			l = append(l, times(n, 0, r.Intn(6), 0))
		}
		got := history.Sort(l)
		for i := 1; i < len(got); i++ {
			if a, b := got[i-1], got[i]; a.Done > b.Done || a.Done == b.Done && a.Who > b.Who {
				t.Fatalf("Sort: %v ahead of %v", a, b)
			}
		}
	}
}

func TestP21_1_Apart(t *testing.T) {
	for i, c := range []struct {
		l    []machine.Event
		want bool
	}{
		{nil, true},
		{[]machine.Event{times(0, 0, 1, 2)}, true},
		{[]machine.Event{times(-5, -3, -2, -1)}, true},
		{[]machine.Event{times(0, 1, 1, 2)}, false},
		{[]machine.Event{times(0, 2, 1, 3)}, false},
		{[]machine.Event{times(0, 0, 2, 2)}, false},
		{[]machine.Event{times(0, 0, 2, 1)}, false},
		{[]machine.Event{times(0, math.MinInt, 0, math.MaxInt)}, true},
		{[]machine.Event{times(0, 0, 1, 2), times(0, 3, 4, 5)}, true},
		{[]machine.Event{times(0, 3, 4, 5), times(0, 0, 1, 2)}, true},
		{[]machine.Event{times(0, 0, 1, 3), times(0, 3, 4, 5)}, false},
		{[]machine.Event{times(0, 3, 4, 5), times(0, 0, 1, 3)}, false},
		{[]machine.Event{times(0, 0, 1, 4), times(0, 3, 5, 6)}, false},
		{[]machine.Event{times(0, 0, 1, 9), times(0, 3, 5, 6)}, false},
		{[]machine.Event{times(0, 0, 1, 9), times(1, 3, 5, 6), times(2, 0, 6, 7)}, true},
		{[]machine.Event{times(0, 0, 3, 9), times(1, 0, 3, 6)}, false},
		{[]machine.Event{times(0, 0, 3, 9), times(1, 0, 4, 6), times(2, 1, 3, 5)}, false},
		{[]machine.Event{times(0, 0, 1, 2), times(1, 0, 5, 9), times(0, 6, 7, 8)}, true},
		{[]machine.Event{times(0, 0, 1, 2), times(0, 6, 7, 8), times(0, 3, 4, 6)}, false},
		{[]machine.Event{times(0, 0, 1, 2), times(0, 0, 3, 4)}, false},
		{[]machine.Event{times(0, math.MinInt, 1, 2), times(0, math.MaxInt-2, math.MaxInt-1, math.MaxInt)}, true},
	} {
		was := slices.Clone(c.l)
		if got := history.Apart(c.l); got != c.want {
			t.Errorf("Apart %d: %t", i, got)
		}
		if !slices.Equal(was, c.l) {
			t.Errorf("what was handed in was changed: %v", c.l)
		}
	}
}

func check(t *testing.T, m ops.Map, l []machine.Event, want ops.Map, n int, e api.Errno) {
	t.Helper()
	was := fmt.Sprint(m, l)
	if got, at, err := history.Check(m, l); !same(got, want) || at != n || err != e {
		t.Errorf("Check(%v, %v): %v %d %d, not %v %d %d", m, l, got, at, err, want, n, e)
	}
	if fmt.Sprint(m, l) != was {
		t.Errorf("what was handed in was changed: %v %v", m, l)
	}
}

func TestP21_1_Check(t *testing.T) {
	m := mapOf(of(5, 1, "a"))
	l := []machine.Event{
		at(5, op(ops.Read, 1), tells(of(1, 2, "x"))),
		at(1, op(ops.New, 1), tells(of(1, 1, ""))),
		at(7, op(ops.Delete, 5), ops.Result{}),
		at(3, writes(1, "x"), tells(of(1, 2, "x"))),
		at(9, op(ops.Delete, 5), fails(api.ErrNone)),
		at(11, op(9, 9), fails(api.ErrArg)),
		at(13, op(ops.New, 1), fails(api.ErrThere)),
	}
	check(t, m, l, mapOf(of(1, 2, "x")), 7, api.OK)
	check(t, m, nil, m, 0, api.OK)
	check(t, ops.Map{}, nil, ops.Map{}, 0, api.OK)
	check(t, ops.Map{}, l, mapOf(of(1, 2, "x")), 3, api.ErrForm)
	for _, c := range []struct {
		r    ops.Result
		want ops.Map
	}{
		{tells(of(1, 1, "x")), mapOf(of(1, 2, "x"), of(5, 1, "a"))}, {tells(of(1, 2, "y")), mapOf(of(1, 2, "x"), of(5, 1, "a"))}, {fails(api.ErrNone), mapOf(of(1, 2, "x"), of(5, 1, "a"))},
		{ops.Result{}, mapOf(of(1, 2, "x"), of(5, 1, "a"))}, {ops.Result{E: api.ErrFailed, Page: of(1, 2, "x")}, mapOf(of(1, 2, "x"), of(5, 1, "a"))}, {ops.Result{E: api.ErrNone, Page: of(1, 2, "x")}, mapOf(of(1, 2, "x"), of(5, 1, "a"))},
	} {
		l := slices.Clone(l)
		l[0].Result = c.r
		check(t, m, l, c.want, 2, api.ErrForm)
	}
	l[1].Result = tells(of(1, 2, ""))
	check(t, m, l, m, 0, api.ErrForm)
}

func TestP21_1_CheckFailed(t *testing.T) {
	m := mapOf(of(5, 1, "a"))
	failed := fails(api.ErrFailed)
	l := []machine.Event{at(1, writes(5, "b"), failed), at(3, op(ops.Read, 5), tells(of(5, 1, "a"))), at(5, op(ops.Delete, 5), failed), at(7, op(ops.New, 5), failed), at(9, op(9, 9), failed), at(11, writes(5, "c"), tells(of(5, 2, "c")))}
	check(t, m, l, mapOf(of(5, 2, "c")), 6, api.OK)
	l[1].Result = failed
	check(t, m, l, mapOf(of(5, 2, "c")), 6, api.OK)
	l[4].Result.Page = of(1, 1, "")
	check(t, m, l, m, 4, api.ErrForm)
}

func TestP21_1_CheckRefuses(t *testing.T) {
	wrong := mapOf(of(2, 1, ""), of(1, 1, ""))
	var l []machine.Event
	for n := range 401 {
		l = append(l, at(2*n, op(ops.Read, 1), fails(api.ErrNone)))
	}
	check(t, ops.Map{}, l, ops.Map{}, 0, api.ErrLong)
	check(t, wrong, l, wrong, 0, api.ErrLong)
	check(t, ops.Map{}, l[:400], ops.Map{}, 400, api.OK)
	check(t, wrong, l[:400], wrong, 0, api.ErrArg)
	check(t, wrong, nil, wrong, 0, api.ErrArg)
	notApart := []machine.Event{at(1, op(ops.New, 1), tells(of(1, 1, ""))), at(1, op(ops.New, 2), tells(of(2, 1, "")))}
	check(t, wrong, notApart, wrong, 0, api.ErrArg)
	check(t, mapOf(of(5, 1, "a")), notApart, mapOf(of(5, 1, "a")), 0, api.ErrForm)
	notApart[1].Done, notApart[1].Ended, notApart[1].Who = 3, 4, notApart[0].Who
	check(t, ops.Map{}, notApart, ops.Map{}, 0, api.ErrForm)
	check(t, ops.Map{}, []machine.Event{{Op: op(ops.New, 1), Result: tells(of(1, 1, ""))}}, ops.Map{}, 0, api.ErrForm)
}

func TestP21_1_Example(t *testing.T) {
	l := []machine.Event{at(1, op(ops.New, 1), tells(of(1, 1, "")))}
	check(t, ops.Map{}, l, mapOf(of(1, 1, "")), 1, api.OK)
	check(t, ops.Map{}, append(l, at(3, op(ops.Read, 1), tells(of(1, 2, "")))), mapOf(of(1, 1, "")), 1, api.ErrForm)
}

// told runs a machine at random, and tells its pages ahead and behind, and what was told.
func told(t *testing.T, r *rand.Rand, d api.Disk) (ops.Map, ops.Map, []machine.Event) {
	t.Helper()
	workers := 1 + r.Intn(4)
	lists := make([][]ops.Op, workers)
	for i := range lists {
		for n := range r.Intn(12) {
			lists[i] = append(lists[i], ops.Op{Kind: r.Intn(6), Id: r.Intn(6), Body: strings.Repeat("b", n+6)})
		}
	}
	m, err := machine.New(d, 1+r.Intn(3), lists)
	if err != api.OK {
		t.Fatal(err)
	}
	was := m.Pages()
	for range 300 {
		switch r.Intn(6) {
		case 0:
			m.Pump()
		case 1:
			m.Finish(r.Intn(3), r.Intn(2) == 0)
		case 2:
			if r.Intn(9) == 0 {
				m.Age(r.Intn(3))
			}
		default:
			m.Step(r.Intn(workers))
		}
	}
	for who := range workers {
		for m.Left(who) > 0 {
			for other := range workers {
				m.Step(other)
			}
			m.Pump()
			m.Finish(0, false)
		}
	}
	return was, m.Pages(), m.History()
}

func isFailed(e machine.Event) bool { return e.Result == fails(api.ErrFailed) }

func TestP21_2_OfMachines(t *testing.T) {
	r := rand.New(rand.NewSource(2))
	events := 0
	for range 150 {
		d, _ := disk.New(35)
		d, _ = store.Set(d, of(1, 4, "a"))
		d, _ = store.Set(d, of(4, 1, "b"))
		was, pages, l := told(t, r, d)
		l = slices.DeleteFunc(l, isFailed)
		events += len(l)
		if !history.Apart(l) {
			t.Fatalf("not Apart: %v", l)
		}
		check(t, was, l, pages, len(l), api.OK)
		sorted := history.Sort(l)
		for k := range l {
			if _, n, err := history.Check(was, sorted[:k]); n != k || err != api.OK {
				t.Fatalf("Check of the beginning of %d: %d %d", k, n, err)
			}
		}
	}
	if events < 500 {
		t.Errorf("only %d events", events)
	}
}

func TestP21_2_ChangeTheirTimes(t *testing.T) {
	r := rand.New(rand.NewSource(3))
	swapped := 0
	for range 2000 {
		m := mapOf(of(1, 1, "a"), of(3, 2, "b"))
		var l []machine.Event
		was := m
		for n := range 6 {
			o := ops.Op{Kind: 1 + r.Intn(4), Id: 1 + r.Intn(4), Body: fmt.Sprint(n)}
			var res ops.Result
			m, res = ops.Do(m, o)
			l = append(l, at(4*n, o, res))
		}
		check(t, was, l, m, 6, api.OK)
		i := r.Intn(5)
		if l[i].Op.Id == l[i+1].Op.Id {
			continue
		}
		swapped++
		l[i].Op, l[i+1].Op = l[i+1].Op, l[i].Op
		l[i].Result, l[i+1].Result = l[i+1].Result, l[i].Result
		check(t, was, l, m, 6, api.OK)
	}
	if swapped < 500 {
		t.Errorf("only %d changed their times", swapped)
	}
}
