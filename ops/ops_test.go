package ops_test

import (
	"fmt"
	"maps"
	"math"
	"math/rand"
	"slices"
	"strings"
	"testing"

	"lockkeeper/api"
	"lockkeeper/ops"
)

// same holds two values against each other; fmt tells nil and empty lists alike.
func same(a, b any) bool { return fmt.Sprintf("%v", a) == fmt.Sprintf("%v", b) }

func of(id, version int, body string) api.Page {
	return api.Page{Id: id, Version: version, Body: body}
}

func mapOf(pages ...api.Page) ops.Map { return ops.Map{Pages: pages} }

func op(kind, id int) ops.Op              { return ops.Op{Kind: kind, Id: id} }
func writes(id int, body string) ops.Op   { return ops.Op{Kind: ops.Write, Id: id, Body: body} }
func tells(p api.Page) ops.Result         { return ops.Result{Page: p} }
func fails(e api.Errno) ops.Result        { return ops.Result{E: e} }
func clone(m ops.Map) ops.Map             { return ops.Map{Pages: slices.Clone(m.Pages)} }
func equal(a ops.Map, b ...api.Page) bool { return slices.Equal(a.Pages, b) }
func long(n int) string                   { return strings.Repeat("a", n) }
func is(t *testing.T, got, want ops.Map)  { t.Helper(); check(t, equal(got, want.Pages...), got, want) }
func check(t *testing.T, ok bool, l ...any) {
	t.Helper()
	if !ok {
		t.Error(l...)
	}
}

func wrong() []ops.Map {
	return []ops.Map{
		mapOf(api.Page{}), mapOf(of(0, 1, "")), mapOf(of(17, 1, "")), mapOf(of(-1, 1, "")), mapOf(of(1, 0, "")), mapOf(of(1, api.MaxNum+1, "")), mapOf(of(1, 1, long(17))),
		mapOf(of(1, 1, ""), of(1, 1, "")), mapOf(of(2, 1, ""), of(1, 1, "")), mapOf(of(1, 1, ""), of(3, 1, ""), of(2, 1, "")), mapOf(of(1, 1, ""), of(2, 0, "")),
	}
}

func do(t *testing.T, m ops.Map, o ops.Op, want ops.Result, wantMap ops.Map) ops.Map {
	t.Helper()
	was := clone(m)
	got, r := ops.Do(m, o)
	if r != want || !same(got, wantMap) {
		t.Errorf("%v on %v: %v %v", o, was, got, r)
	}
	if !same(m, was) {
		t.Fatalf("what was handed in was changed: %v", m)
	}
	return got
}

func TestP18_1_Kinds(t *testing.T) {
	if got := []int{ops.New, ops.Read, ops.Write, ops.Delete}; !slices.Equal(got, []int{1, 2, 3, 4}) {
		t.Errorf("the kinds: %d", got)
	}
}

func TestP18_1_Right(t *testing.T) {
	var all ops.Map
	for id := 1; id <= 16; id++ {
		all.Pages = append(all.Pages, of(id, api.MaxNum, long(16)))
	}
	for i, m := range []ops.Map{{}, mapOf(of(1, 1, "")), mapOf(of(16, 1, "")), mapOf(of(3, 9, "a"), of(4, 1, long(16)), of(16, 2, "")), all} {
		if !ops.Right(m) {
			t.Errorf("map %d is not right", i)
		}
	}
	for i, m := range wrong() {
		if ops.Right(m) {
			t.Errorf("wrong map %d is right", i)
		}
	}
}

func TestP18_1_Get(t *testing.T) {
	m := mapOf(of(2, 1, "a"), of(5, 3, ""), of(16, 9, "c"))
	for _, p := range m.Pages {
		if got, ok := ops.Get(m, p.Id); got != p || !ok {
			t.Errorf("Get(%d): %v %t", p.Id, got, ok)
		}
	}
	for _, id := range []int{0, 1, 3, 4, 6, 15, 17, -1, math.MaxInt, math.MinInt} {
		if got, ok := ops.Get(m, id); got != (api.Page{}) || ok {
			t.Errorf("Get(%d): %v %t", id, got, ok)
		}
	}
	for i, m := range wrong() {
		for _, id := range []int{0, 1, 2} {
			if got, ok := ops.Get(m, id); got != (api.Page{}) || ok {
				t.Errorf("Get of wrong map %d: %v %t", i, got, ok)
			}
		}
	}
}

func TestP18_2_Do(t *testing.T) {
	m := mapOf(of(2, 1, "a"), of(5, api.MaxNum-1, "b"), of(7, api.MaxNum, "c"))
	do(t, m, op(ops.New, 1), tells(of(1, 1, "")), mapOf(of(1, 1, ""), m.Pages[0], m.Pages[1], m.Pages[2]))
	do(t, m, op(ops.New, 3), tells(of(3, 1, "")), mapOf(m.Pages[0], of(3, 1, ""), m.Pages[1], m.Pages[2]))
	do(t, m, ops.Op{Kind: ops.New, Id: 16, Body: long(99)}, tells(of(16, 1, "")), mapOf(m.Pages[0], m.Pages[1], m.Pages[2], of(16, 1, "")))
	do(t, m, op(ops.New, 5), fails(api.ErrThere), m)
	do(t, m, op(ops.Read, 2), tells(of(2, 1, "a")), m)
	do(t, m, op(ops.Read, 7), tells(of(7, api.MaxNum, "c")), m)
	do(t, m, op(ops.Read, 3), fails(api.ErrNone), m)
	do(t, m, writes(2, long(16)), tells(of(2, 2, long(16))), mapOf(of(2, 2, long(16)), m.Pages[1], m.Pages[2]))
	do(t, m, writes(5, ""), tells(of(5, api.MaxNum, "")), mapOf(m.Pages[0], of(5, api.MaxNum, ""), m.Pages[2]))
	do(t, m, writes(2, long(17)), fails(api.ErrLong), m)
	do(t, m, writes(7, "d"), fails(api.ErrFull), m)
	do(t, m, writes(7, long(17)), fails(api.ErrLong), m)
	do(t, m, writes(3, long(17)), fails(api.ErrNone), m)
	do(t, m, op(ops.Delete, 2), ops.Result{}, mapOf(m.Pages[1], m.Pages[2]))
	do(t, m, op(ops.Delete, 7), ops.Result{}, mapOf(m.Pages[0], m.Pages[1]))
	do(t, m, op(ops.Delete, 3), fails(api.ErrNone), m)
	do(t, ops.Map{}, op(ops.New, 2), tells(of(2, 1, "")), mapOf(of(2, 1, "")))
}

func TestP18_2_DoRefuses(t *testing.T) {
	m := mapOf(of(2, 1, "a"))
	for _, kind := range []int{0, -1, 5, math.MaxInt, math.MinInt} {
		do(t, m, op(kind, 2), fails(api.ErrArg), m)
		do(t, m, op(kind, 3), fails(api.ErrArg), m)
	}
	for kind := ops.New; kind <= ops.Delete; kind++ {
		for _, id := range []int{0, -1, 17, math.MaxInt, math.MinInt} {
			do(t, m, op(kind, id), fails(api.ErrArg), m)
		}
		for _, m := range wrong() {
			do(t, m, op(kind, 1), fails(api.ErrArg), m)
			do(t, m, op(kind, 9), fails(api.ErrArg), m)
		}
	}
}

func TestP18_2_All(t *testing.T) {
	l := []ops.Op{op(ops.New, 4), op(ops.New, 4), writes(4, "x"), op(0, 4), op(ops.Read, 4), op(ops.Delete, 2), op(ops.Read, 2), writes(4, long(17)), op(ops.New, 2)}
	was := mapOf(of(2, 9, "z"))
	m, results := ops.All(was, l)
	want := []ops.Result{tells(of(4, 1, "")), fails(api.ErrThere), tells(of(4, 2, "x")), fails(api.ErrArg), tells(of(4, 2, "x")), {}, fails(api.ErrNone), fails(api.ErrLong), tells(of(2, 1, ""))}
	if !slices.Equal(results, want) {
		t.Errorf("All: %v", results)
	}
	is(t, m, mapOf(of(2, 1, ""), of(4, 2, "x")))
	is(t, was, mapOf(of(2, 9, "z")))
	m, results = ops.All(was, nil)
	is(t, m, was)
	if len(results) != 0 {
		t.Errorf("All of none: %v", results)
	}
	for i, m := range wrong() {
		if got, results := ops.All(m, l[:2]); !same(got, m) || !slices.Equal(results, []ops.Result{fails(api.ErrArg), fails(api.ErrArg)}) {
			t.Errorf("All of wrong map %d: %v %v", i, got, results)
		}
	}
}

func anyOp(r *rand.Rand) ops.Op {
	return ops.Op{Kind: r.Intn(6), Id: r.Intn(6), Body: long(r.Intn(18))}
}

func TestP18_2_AllAlong(t *testing.T) {
	r := rand.New(rand.NewSource(1))
	for range 50 {
		var m ops.Map
		there := map[int]api.Page{}
		for range 100 {
			o := anyOp(r)
			p, is := there[o.Id]
			var want ops.Result
			switch {
			case o.Kind < 1 || o.Kind > 4 || o.Id == 0:
				want.E = api.ErrArg
			case o.Kind == ops.New && is:
				want.E = api.ErrThere
			case o.Kind == ops.New:
				there[o.Id] = of(o.Id, 1, "")
				want.Page = there[o.Id]
			case !is:
				want.E = api.ErrNone
			case o.Kind == ops.Delete:
				delete(there, o.Id)
			case o.Kind == ops.Read:
				want.Page = p
			case len(o.Body) > 16:
				want.E = api.ErrLong
			default:
				there[o.Id] = of(o.Id, p.Version+1, o.Body)
				want.Page = there[o.Id]
			}
			var pages []api.Page
			for _, id := range slices.Sorted(maps.Keys(there)) {
				pages = append(pages, there[id])
			}
			m = do(t, m, o, want, ops.Map{Pages: pages})
		}
	}
}

func TestP18_3_ChangePlaces(t *testing.T) {
	r := rand.New(rand.NewSource(2))
	var m ops.Map
	for range 3000 {
		a, b := anyOp(r), anyOp(r)
		ab, results := ops.All(m, []ops.Op{a, b})
		ba, turned := ops.All(m, []ops.Op{b, a})
		if a.Id != b.Id && (!same(ab, ba) || results[0] != turned[1] || results[1] != turned[0]) {
			t.Fatalf("%v and %v on %v", a, b, m)
		}
		next, res := ops.Do(m, a)
		if res.E != api.OK && !same(next, m) {
			t.Fatalf("%v on %v has an error, and changes it: %v", a, m, next)
		}
		m = next
	}
}

func TestP18_3_Example(t *testing.T) {
	_, results := ops.All(ops.Map{}, []ops.Op{op(ops.New, 2), writes(2, "x")})
	if results[1] != tells(of(2, 2, "x")) {
		t.Errorf("%v", results)
	}
}
