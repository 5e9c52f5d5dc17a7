package desk_test

import (
	"fmt"
	"math/rand"
	"strings"
	"testing"

	"lockkeeper/api"
	"lockkeeper/desk"
	"lockkeeper/disk"
	"lockkeeper/machine"
	"lockkeeper/ops"
	"lockkeeper/rounds"
)

// says runs lines, each with what it tells behind =>.
func says(t *testing.T, lines ...string) {
	t.Helper()
	var script, want strings.Builder
	for _, l := range lines {
		line, told, _ := strings.Cut(l, "=>")
		script.WriteString(line + "\n")
		want.WriteString(told + "\n")
	}
	got := desk.Run(script.String())
	if got == want.String() {
		return
	}
	told := strings.Split(got, "\n")
	for i, w := range strings.Split(want.String(), "\n") {
		if i >= len(told) || told[i] != w {
			t.Fatalf("the line %d, %q: %q, not %q", i+1, lines[min(i, len(lines)-1)], told[min(i, len(told)-1)], w)
		}
	}
	t.Fatalf("more than was asked: %q", got)
}

func TestP22_1_TenExamples(t *testing.T) {
	says(t,
		"pump=>error 13",
		"do 0 new 1=>ok", "do 0 write 1 ab=>ok", "start 1 2=>ok",
		"step 0=>ok yes", "state 0=>ok 1 2",
		"run 50=>ok 11", "history=>ok 0 1 1 0 1 0 3 1 0 2",
		"pages=>ok 1 2", "read 1=>ok 97 98", "read 2=>error 3",
		"clock=>ok 12 0", "start 0 2=>error 1", "start 5 2=>error 2",
		"do 0 read 1=>ok", "start 1 1=>ok", "round=>ok yes", "step 0=>ok yes", "step 0=>ok yes", "step 0=>ok yes",
		"clock=>ok 4 0", "pump=>ok", "fault 0=>ok yes", "fault 0=>ok yes", "fault 0=>ok yes", "fault 0=>ok no",
		"run 9=>ok 1", "history=>ok 0 2 1 8 0",
		"what=>error 2",
	)
	says(t, "do 0 new 1=>ok", "start 1 2=>ok", "run 20=>ok 6", "pages=>ok 1 1")
}

func TestP22_1_Lines(t *testing.T) {
	for script, want := range map[string]string{
		"": "", "\n": "error 2\n", "\n\n": "error 2\nerror 2\n", "pump": "error 13\n", "pump\n": "error 13\n", "pump\n\n": "error 13\nerror 2\n", "\npump": "error 2\nerror 13\n",
		"pump\r\n": "error 2\n", "do 0 new 1\npump": "ok\nerror 13\n", "pump\x00": "error 2\n",
	} {
		if got := desk.Run(script); got != want {
			t.Errorf("Run(%q): %q, not %q", script, got, want)
		}
	}
}

func TestP22_1_NoMachine(t *testing.T) {
	for _, line := range []string{"step 0", "finish 0", "fault 0", "pump", "age 0", "round", "run 0", "run 501", "state 9", "history", "pages", "read 0", "clock"} {
		says(t, line+"=>error 13", "do 0 new 1=>ok", line+"=>error 13", "start 0 1=>error 1", line+"=>error 13", "start 1 1=>ok")
	}
}

// forms are lines that are none, machine or not.
func forms() []string {
	l := []string{"", " ", "what", "do", "start", "Pump", "pump ", " pump", "pump 0", "do  0 new 1", "do 0 new", "do 0 new 1 a b", "do 0 new 1  ", "do 0 new  1", "do 4 new 1", "do 10 new 1", "do -1 new 1", "do 00 new 1", "do a new 1", "do 0 what 1", "do 0 New 1", "do 0  1", "do 0 1 new", "do 0 new a", "do 0 new -1", "do 0 new +1", "do 0 new 01", "do 0 new 1000000000", "do 0 new 1.", "do 0 new ",
		"start 1", "start 1 1 1", "start 5 1", "start 9 0", "start  1", "start 1 ", "start a 1", "start 1 a", "start -1 1", "start 1 -1", "start 01 1", "start 1 01", "start 1000000000 1", "start 1 1000000000",
		"do 0 new 1\x00", "do\t0 new 1", "pump\t", "write 1", "new 1", "finish", "round 1", "history 0", "pages 1", "clock 0", "pumpx", "do 0 new ١"}
	for _, name := range []string{"step", "finish", "fault", "age", "run", "state", "read"} {
		l = append(l, name, name+" ", name+"  0", name+" 0 ", name+" 0 0", name+" 00", name+" 01", name+" -1", name+" +1", name+" 1000000000", name+" 0000000001", name+" a", name+" 1a", name+" 0x1", name+" 1_0")
	}
	return l
}

func TestP22_1_Forms(t *testing.T) {
	for _, line := range forms() {
		says(t, line+"=>error 2", "do 0 new 1=>ok", line+"=>error 2", "start 1 1=>ok", line+"=>error 2", "state 0=>ok 0 1", "clock=>ok 0 0")
	}
}

func TestP22_1_Do(t *testing.T) {
	says(t,
		"do 3 new 1=>ok", "do 3 write 1=>ok", "do 3 write 1 =>ok", "do 3 write 1 abcdefghijklmnop=>ok", "do 3 write 1 abcdefghijklmnopq=>ok", "do 3 read 1 what=>ok", "do 3 delete 1=>ok", "do 3 read 0=>ok", "do 3 new 999999999 x=>ok", "do 3 new 16 \x00=>ok", "do 3 write 16 \xff\x00\t=>ok",
		"start 4 1=>ok", "state 3=>ok 0 11", "run 500=>ok 60",
		"history=>ok 3 1 1 0 1 3 3 1 0 2 3 3 1 0 3 3 3 1 0 4 3 3 1 5 0 3 2 1 0 4 3 4 1 0 0 3 2 0 1 0 3 1 999999999 1 0 3 1 16 0 1 3 3 16 0 2",
		"pages=>ok 16 2", "read 16=>ok 255 0 9", "read 1=>error 3",
	)
}

func TestP22_1_Start(t *testing.T) {
	says(t,
		"start 1 0=>error 1", "start 1 9=>error 1", "start 1 999999999=>error 1", "start 0 0=>error 1",
		"do 0 new 1=>ok", "do 1 new 2=>ok", "start 1 9=>error 1", "start 2 8=>ok", "state 0=>ok 0 0", "state 1=>ok 0 0", "clock=>ok 0 0",
		"do 0 new 1=>ok", "do 1 new 2=>ok", "do 2 new 3=>ok", "start 2 1=>ok", "state 0=>ok 0 1", "state 1=>ok 0 1", "state 2=>ok 0 0", "state 999999999=>ok 0 0",
		"run 99=>ok 8", "pages=>ok 1 1 2 1", "clock=>ok 16 0",
		// The lists were emptied, those that were not asked for, too; a start that fails keeps the machine.
		"start 0 1=>error 1", "clock=>ok 16 0", "pages=>ok 1 1 2 1", "start 5 1=>error 2", "clock=>ok 16 0",
		"start 4 1=>ok", "state 2=>ok 0 0", "clock=>ok 0 0", "history=>ok", "pages=>ok 1 1",
	)
	var lines []string
	for range 61 {
		lines = append(lines, "do 1 read 1=>ok")
	}
	says(t, append(lines[:60], "start 2 1=>ok", "state 1=>ok 0 60", "step 1=>ok yes")...)
	lines = lines[:0]
	for range 61 {
		lines = append(lines, "do 1 read 1=>ok")
	}
	says(t, append(lines, "start 2 1=>error 1", "start 2 1=>ok", "state 1=>ok 0 0")...)
	lines = lines[:61]
	says(t, append(lines, "start 1 1=>ok", "state 1=>ok 0 0")...)
}

func TestP22_1_OverTheSameDisk(t *testing.T) {
	says(t,
		"do 0 new 1=>ok", "do 0 write 1 ab=>ok", "do 0 new 2=>ok", "start 1 3=>ok", "run 500=>ok 18", "pages=>ok 1 2 2 1",
		"age 1=>ok", "do 0 new 3=>ok", "start 1 3=>ok", "pages=>ok 1 2 2 1", "read 1=>ok 97 98", "run 500=>ok 6", "pages=>ok 1 2 2 1 3 1", "age 2=>ok", "start 1 3=>ok", "pages=>ok 1 2 2 1",
	)
}

func TestP22_1_StepsAndFaults(t *testing.T) {
	says(t,
		"do 0 read 1=>ok", "do 1 read 1=>ok", "start 2 2=>ok",
		"step 0=>ok yes", "step 1=>ok yes", "step 2=>ok no", "step 999999999=>ok no", "clock=>ok 2 0", "round=>ok yes", "round=>ok yes", "state 0=>ok 3 1",
		"step 0=>ok yes", "step 1=>ok yes", "step 1=>ok no", "state 1=>ok 4 1", "finish 0=>ok no", "fault 0=>ok no", "pump=>ok", "clock=>ok 9 2",
		"finish 2=>ok no", "fault 2=>ok no", "finish 999999999=>ok no", "finish 1=>ok yes", "state 1=>ok 5 1", "clock=>ok 9 1", "fault 0=>ok yes", "clock=>ok 9 1", "round=>ok yes", "state 0=>ok 5 1", "clock=>ok 11 0",
		"run 0=>ok 0", "run 1=>ok 1", "run 999999999=>ok 1", "run 500=>ok 0", "round=>ok no", "history=>ok 1 2 1 3 0 0 2 1 3 0",
	)
}

func TestP22_1_RunOfAtMost500(t *testing.T) {
	// Four workers with 60 operations each have more to do than 500 rounds can end.
	var lines []string
	for range 60 {
		lines = append(lines, "do 0 read 1=>ok", "do 1 read 1=>ok", "do 2 read 1=>ok", "do 3 read 1=>ok")
	}
	lines = append(lines, "start 4 1=>ok")
	for _, run := range []string{"run 500", "run 501", "run 999999999"} {
		says(t, append(lines, run+"=>ok 500", "clock=>ok 2000 0")...)
	}
	says(t, append(lines, "run 499=>ok 499", "clock=>ok 1996 0")...)
}

func TestP22_1_Read(t *testing.T) {
	says(t, "do 0 new 7=>ok", "start 1 1=>ok", "read 7=>error 3", "run 9=>ok 6", "read 7=>ok", "read 0=>error 3", "read 17=>error 3", "read 999999999=>error 3", "read 6=>error 3")
}

// bench is a desk that takes no scripts, but tells of each line what it is to tell.
type bench struct {
	lists   [4][]ops.Op
	m       *machine.Machine
	workers int
}

func yesNo(yes bool) string {
	if yes {
		return "ok yes"
	}
	return "ok no"
}

func (b *bench) line(r *rand.Rand) (string, string) {
	n := r.Intn(6)
	switch k := r.Intn(13); {
	case k < 3:
		w, kind, body := r.Intn(4), r.Intn(4), strings.Repeat("x", r.Intn(18))
		b.lists[w] = append(b.lists[w], ops.Op{Kind: kind + 1, Id: n, Body: body})
		return fmt.Sprintf("do %d %s %d %s", w, []string{"new", "read", "write", "delete"}[kind], n, body), "ok"
	case b.m == nil || k == 3 && r.Intn(15) == 0:
		return b.start(r.Intn(5), n)
	case k == 4:
		b.m.Pump()
		return "pump", "ok"
	case k == 5:
		return fmt.Sprintf("finish %d", n%3), yesNo(b.m.Finish(n%3, false))
	case k == 6:
		return fmt.Sprintf("fault %d", n%2), yesNo(b.m.Finish(n%2, true))
	case k == 7:
		b.m.Age(n)
		return fmt.Sprintf("age %d", n), "ok"
	case k == 8:
		return "round", yesNo(rounds.Round(b.m, b.workers, false))
	case k == 9:
		return fmt.Sprintf("run %d", n), fmt.Sprintf("ok %d", rounds.Run(b.m, b.workers, nil, n))
	case k == 10:
		return b.ask(r, n)
	}
	return fmt.Sprintf("step %d", n), yesNo(b.m.Step(n))
}

func (b *bench) start(n, frames int) (string, string) {
	d, _ := disk.New(35)
	if b.m != nil {
		d = b.m.Pool().D
	}
	m, err := machine.New(d, frames, b.lists[:n:n])
	b.lists = [4][]ops.Op{}
	line := fmt.Sprintf("start %d %d", n, frames)
	if err != api.OK {
		return line, fmt.Sprintf("error %d", err)
	}
	b.m, b.workers = m, n
	return line, "ok"
}

func (b *bench) ask(r *rand.Rand, n int) (string, string) {
	told := "ok"
	switch r.Intn(4) {
	case 0:
		return fmt.Sprintf("state %d", n), fmt.Sprintf("ok %d %d", b.m.State(n), b.m.Left(n))
	case 1:
		for _, e := range b.m.History() {
			told += fmt.Sprintf(" %d %d %d %d %d", e.Who, e.Op.Kind, e.Op.Id, e.Result.E, e.Result.Page.Version)
		}
		return "history", told
	case 2:
		for _, p := range b.m.Pages().Pages {
			told += fmt.Sprintf(" %d %d", p.Id, p.Version)
		}
		return "pages", told
	}
	return "clock", fmt.Sprintf("ok %d %d", b.m.Clock(), b.m.Flight())
}

func TestP22_1_AllAlong(t *testing.T) {
	r := rand.New(rand.NewSource(1))
	for range 60 {
		var b bench
		var lines []string
		for range 150 {
			line, told := b.line(r)
			lines = append(lines, line+"=>"+told)
		}
		says(t, lines...)
	}
}

func TestP22_2_TheBeginning(t *testing.T) {
	r := rand.New(rand.NewSource(2))
	wrong := forms()
	for range 6 {
		var b bench
		var lines []string
		for range 90 {
			line, _ := b.line(r)
			if r.Intn(9) == 0 {
				line = wrong[r.Intn(len(wrong))]
			}
			lines = append(lines, line)
		}
		script := strings.Join(lines, "\n") + "\n"
		report := desk.Run(script)
		if desk.Run(script) != report || strings.Count(report, "\n") != len(lines) {
			t.Fatalf("the same script has another report, or not a line each: %q", report)
		}
		if open := strings.TrimSuffix(script, "\n"); lines[len(lines)-1] != "" && desk.Run(open) != report {
			t.Fatalf("a script whose last line does not end: %q", desk.Run(open))
		}
		for n := range lines {
			begin := ""
			if n > 0 {
				begin = strings.Join(lines[:n], "\n") + "\n"
			}
			got := desk.Run(begin)
			if !strings.HasPrefix(report, got) || strings.Count(got, "\n") != n {
				t.Fatalf("the report of the first %d lines: %q, of all %q", n, got, report)
			}
		}
	}
}
