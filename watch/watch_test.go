package watch

import (
	"math"
	"slices"
	"testing"

	"footman/api"
	"footman/code"
	"footman/core"
)

func three(op string, rd, r1, r2 int) api.Ins {
	return api.Ins{Op: op, Rd: rd, R1: r1, R2: r2}
}

func two(op string, rd, r1 int, imm int32) api.Ins {
	return api.Ins{Op: op, Rd: rd, R1: r1, Imm: imm}
}

// A store or a branch.
func pair(op string, r1, r2 int, imm int32) api.Ins {
	return api.Ins{Op: op, R1: r1, R2: r2, Imm: imm}
}

func one(op string, rd int, imm int32) api.Ins {
	return api.Ins{Op: op, Rd: rd, Imm: imm}
}

func alone(op string) api.Ins {
	return api.Ins{Op: op}
}

const size = 128 // words of each machine here: up to 0x200

// Where things stand: the kernel begins at 0, traps lead to trapAt, tasks stand at taskAt and otherAt.
const (
	trapAt  = 0x40
	taskAt  = 0x80
	otherAt = 0x100
)

// Instructions by the addresses that they stand from on.
type laid map[int][]api.Ins

func machine(t *testing.T, k laid, late ...int) *core.Core {
	t.Helper()
	l := make([]uint32, size)
	for at, is := range k {
		for n, i := range is {
			x, e := code.Put(i)
			if e != api.OK {
				t.Fatalf("2.2: Put of %+v: %v", i, e)
			}
			l[at/4+n] = x
		}
	}
	c, e := core.New(l, late)
	if e != api.OK {
		t.Fatal("6.1: New", e)
	}
	return c
}

// Registers of a kernel that is about to go to the task at pc: X 6 leads to the devices, the task may do all there is.
func toTask(pc uint32) api.Regs {
	return api.Regs{X: [32]uint32{6: api.DCmp}, Tvec: trapAt, Epc: pc, Guard: [16]uint32{0, 4*size | 3}}
}

// A handler of traps that goes on behind what trapped, and takes 7 cycles for it.
func onward() []api.Ins {
	return []api.Ins{two("csrrs", 20, 0, api.CEpc), two("addi", 20, 20, 4), two("csrrw", 0, 20, api.CEpc), alone("mret")}
}

func watched(t *testing.T, c *core.Core, parts ...api.Region) *Watch {
	t.Helper()
	w := New(c, parts)
	if w == nil {
		t.Fatal("7.1: New: nil")
	}
	return w
}

func run(t *testing.T, w *Watch, n int) {
	t.Helper()
	if got := w.Run(n); got != n {
		t.Fatalf("7.1: Run of %d: %d", n, got)
	}
}

func expectTurns(t *testing.T, what string, w *Watch, want ...api.Turn) {
	t.Helper()
	if got := w.Turns(); !slices.Equal(got, want) {
		t.Errorf("7.2: %s: Turns %+v, not %+v", what, got, want)
	}
}

func expectWays(t *testing.T, what string, w *Watch, ins, outs int) {
	t.Helper()
	if len(w.Ins()) != ins || len(w.Outs()) != outs {
		t.Errorf("7.2: %s: %d Ins, not %d; %d Outs, not %d", what, len(w.Ins()), ins, len(w.Outs()), outs)
	}
}

// Both tasks' parts, the second one first.
func bothParts() []api.Region {
	return []api.Region{{Lo: otherAt, Hi: 0x180, X: true}, {Lo: taskAt, Hi: otherAt, X: true}}
}

func TestExample(t *testing.T) {
	for _, parts := range [][]api.Region{nil, {}, bothParts()} {
		if w := New(nil, parts); w != nil {
			t.Error("7.1: New of nil: nil", w)
		}
	}
}

func TestNewDoesNothing(t *testing.T) {
	c := machine(t, laid{0: {alone("mret")}})
	c.Put(toTask(taskAt))
	w := watched(t, c, bothParts()...)
	if c.Time() != 0 || c.Regs() != toTask(taskAt) || c.Leak() != (api.Leak{}) {
		t.Error("7.1: New did something", c.Regs())
	}
	if len(w.Leaks()) != 0 {
		t.Error("7.1: Leaks ahead of Run", w.Leaks())
	}
	expectTurns(t, "ahead of Run", w)
	expectWays(t, "ahead of Run", w, 0, 0)
}

func TestRunOfNothing(t *testing.T) {
	for _, n := range []int{0, -1, -2, -1 << 31, math.MinInt} {
		c := machine(t, laid{0: {alone("fence"), alone("fence")}})
		w := watched(t, c)
		for _, ahead := range []int{0, 1} {
			run(t, w, ahead)
			if got := w.Run(n); got != 0 || c.Time() != ahead || len(w.Leaks()) != ahead {
				t.Errorf("7.1: Run of %d: %d, time %d, leaks %v", n, got, c.Time(), w.Leaks())
			}
		}
	}
}

func TestRunOfSome(t *testing.T) {
	for _, n := range []int{1, 2, 3, 10, 100} {
		c := machine(t, laid{0: {alone("fence"), one("jal", 0, -4)}})
		w := watched(t, c)
		run(t, w, n)
		if c.Time() != n/2*3+n%2 || len(w.Leaks()) != n {
			t.Errorf("7.1: Run of %d: time %d, %d leaks", n, c.Time(), len(w.Leaks()))
		}
	}
}

// fences and the end behind them: n + 1 steps.
func stopping(t *testing.T, n int) *core.Core {
	t.Helper()
	c := machine(t, laid{0: append(slices.Repeat([]api.Ins{alone("fence")}, n), pair("sw", 6, 0, 16), alone("fence"))})
	c.Put(toTask(taskAt))
	return c
}

func TestRunUntilItStops(t *testing.T) {
	for _, v := range []struct{ fences, n, want int }{
		{0, 1, 1}, {0, 2, 1}, {0, math.MaxInt, 1}, {4, 4, 4}, {4, 5, 5}, {4, 6, 5}, {4, 50, 5}, {4, math.MaxInt, 5},
	} {
		c := stopping(t, v.fences)
		w := watched(t, c)
		if got := w.Run(v.n); got != v.want || len(w.Leaks()) != v.want {
			t.Errorf("7.1: Run of %d behind %d fences: %d, %d leaks", v.n, v.fences, got, len(w.Leaks()))
		}
		left := v.fences + 1 - v.want
		if got := w.Run(50); got != left || len(w.Leaks()) != v.fences+1 {
			t.Errorf("7.1: Run once more: %d, not %d; leaks %v", got, left, w.Leaks())
		}
		if w.Run(1) != 0 || w.Run(0) != 0 || w.Run(-1) != 0 || c.Time() != v.fences+2 {
			t.Error("7.1: Run behind the end", c.Time())
		}
	}
}

func TestCoreThatHasStopped(t *testing.T) {
	c := stopping(t, 0)
	if !c.Step() || c.Step() {
		t.Fatal("6.2: it has not stopped")
	}
	for _, user := range []bool{false, true} {
		r := c.Regs()
		r.User = user
		c.Put(r)
		w := watched(t, c)
		if w.Run(1) != 0 || w.Run(9) != 0 || len(w.Leaks()) != 0 {
			t.Error("7.1: of a core that has stopped", w.Leaks())
		}
		expectTurns(t, "of a core that has stopped", w)
		expectWays(t, "of a core that has stopped", w, 0, 0)
	}
}

// All that a step can show: an address, of a load that faults too, a fault, a timer, a wait.
func TestLeaks(t *testing.T) {
	c := machine(t, laid{
		0:      {two("lw", 1, 0, 0x1fc), pair("sw", 0, 1, 0x1f8), two("lh", 1, 0, 3), pair("sw", 6, 7, 0), alone("wfi"), alone("mret")},
		trapAt: {two("csrrs", 20, 0, api.CEpc), two("addi", 20, 20, 4), two("csrrw", 0, 20, api.CEpc), two("csrrw", 0, 21, api.CStatus), alone("mret")},
		taskAt: {alone("fence")},
	}, 5)
	r := toTask(taskAt)
	r.X[7], r.X[21], r.Ie = 30, 0x1800, 0x80
	c.Put(r)
	w := watched(t, c)
	run(t, w, 12)
	want := []api.Leak{
		{PC: 0, At: 0x1fc, Time: 0}, {PC: 4, At: 0x1f8, Time: 2}, {PC: 8, At: 3, Time: 4},
		{PC: 0x40, Time: 8}, {PC: 0x44, Time: 9}, {PC: 0x48, Time: 10}, {PC: 0x4c, Time: 11}, {PC: 0x50, Time: 12},
		{PC: 12, At: api.DCmp, Time: 16}, {PC: 16, Time: 18}, {PC: 20, Time: 49}, {PC: 12, Time: 53},
	}
	if got := w.Leaks(); !slices.Equal(got, want) {
		t.Errorf("7.1: Leaks %+v, not %+v", got, want)
	}
}

// What was done ahead of the watch, or beside it, is none of its steps.
func TestLeaksOfItsOwnSteps(t *testing.T) {
	c := stopping(t, 8)
	c.Step()
	w := watched(t, c)
	run(t, w, 2)
	c.Step()
	run(t, w, 1)
	if got := w.Leaks(); !slices.Equal(got, []api.Leak{{PC: 4, Time: 1}, {PC: 8, Time: 2}, {PC: 16, Time: 4}}) {
		t.Errorf("7.1: Leaks of its own steps: %+v", got)
	}
}

// Each way that leads out of a task: behind an addi, and as its first step.
func TestWaysOut(t *testing.T) {
	for _, v := range []struct {
		last       api.Ins
		cause, val uint32
	}{
		{alone("ecall"), 8, 0},
		{alone("ebreak"), 3, taskAt + 4},
		{two("lw", 1, 0, 0x202), 4, 0x202},
		{two("lw", 1, 0, 0x200), 5, 0x200},
		{pair("sh", 0, 0, 0x1ff), 6, 0x1ff},
		{pair("sw", 6, 0, 16), 7, api.DStop},
		{alone("mret"), 2, 0x30200073},
		{alone("wfi"), 2, 0x10500073},
		{two("csrrs", 1, 0, api.CCycle), 2, 0xc00020f3},
	} {
		c := machine(t, laid{0: {alone("mret")}, taskAt: {two("addi", 1, 1, 1), v.last}})
		c.Put(toTask(taskAt))
		w := watched(t, c, bothParts()...)
		run(t, w, 3)
		expectTurns(t, v.last.Op, w, api.Turn{Task: 1, From: 4, To: 5, N: 1})
		expectWays(t, v.last.Op, w, 1, 1)
		if r := w.Ins()[0]; !r.User || r.PC != taskAt || r.X[1] != 0 {
			t.Errorf("7.2: %s: Ins %+v", v.last.Op, r)
		}
		if r := w.Outs()[0]; r.User || r.PC != trapAt || r.Epc != taskAt+4 || r.Cause != v.cause || r.Tval != v.val || r.X[1] != 1 {
			t.Errorf("7.2: %s: Outs %+v", v.last.Op, r)
		}
		if r := w.Outs()[0]; r != c.Regs() {
			t.Errorf("7.2: %s: Outs behind the step: %+v, not %+v", v.last.Op, r, c.Regs())
		}
	}
}

// A turn whose first step leads out has no step of its own, and no time.
func TestFirstStepLeadsOut(t *testing.T) {
	for _, v := range []struct {
		at, cause uint32
		i         api.Ins
	}{
		{taskAt, 8, alone("ecall")},
		{taskAt, 3, alone("ebreak")},
		{taskAt, 5, two("lw", 1, 0, 0x400)},
		{taskAt + 2, 0, alone("fence")},
		{0x400, 1, alone("fence")},
		{taskAt + 4, 2, alone("fence")},
	} {
		c := machine(t, laid{0: {alone("mret")}, taskAt: {v.i}})
		c.Put(toTask(v.at))
		w := watched(t, c)
		run(t, w, 2)
		expectTurns(t, "a fault at once", w, api.Turn{Task: -1, From: 4, To: 4})
		expectWays(t, "a fault at once", w, 1, 1)
		if r := w.Outs()[0]; r.Cause != v.cause || r.Epc != v.at {
			t.Errorf("7.2: a fault at once: %+v, not of cause %d", r, v.cause)
		}
		if c.Time() != 8 {
			t.Error("6.2: its time", c.Time())
		}
	}
}

// What kernel and task count as: each kind of instruction of a task is one of N, whatever it costs.
func TestN(t *testing.T) {
	body := []api.Ins{
		two("addi", 1, 0, 3), three("mul", 2, 1, 1), three("divu", 3, 2, 1), two("lw", 4, 0, 0x1fc), pair("sw", 0, 4, 0x1f8),
		pair("beq", 1, 2, 8), pair("bne", 1, 2, 4), one("jal", 0, 4), one("lui", 5, 1), one("auipc", 5, 1), alone("fence"),
		two("jalr", 0, 0, taskAt+4*12), alone("ecall"),
	}
	costs := []int{1, 3, 20, 2, 2, 2, 2, 2, 1, 1, 1, 2}
	c := machine(t, laid{0: {alone("fence"), alone("mret")}, taskAt: body})
	c.Put(toTask(taskAt))
	w := watched(t, c, bothParts()...)
	run(t, w, 2)
	now := 5
	expectTurns(t, "at its beginning", w, api.Turn{Task: 1, From: 5, To: 5})
	for n, cost := range costs {
		run(t, w, 1)
		now += cost
		expectTurns(t, body[n].Op, w, api.Turn{Task: 1, From: 5, To: now, N: n + 1})
		expectWays(t, body[n].Op, w, 1, 0)
	}
	run(t, w, 1)
	expectTurns(t, "behind it", w, api.Turn{Task: 1, From: 5, To: now, N: len(costs)})
	expectWays(t, "behind it", w, 1, 1)
	run(t, w, 1)
	expectTurns(t, "later", w, api.Turn{Task: 1, From: 5, To: now, N: len(costs)})
}

// What goes on within the kernel is no turn: neither its traps, nor an mret that leads to itself.
func TestKernelAlone(t *testing.T) {
	c := machine(t, laid{
		0:      {alone("ecall"), alone("ebreak"), two("lw", 1, 0, 2), alone("fence")},
		trapAt: onward(),
	})
	c.Put(toTask(taskAt))
	w := watched(t, c, api.Region{Hi: math.MaxUint32})
	run(t, w, 3*5+1)
	if r := c.Regs(); r.PC != 16 || r.User {
		t.Error("6.2: the kernel", r)
	}
	expectTurns(t, "of the kernel alone", w)
	expectWays(t, "of the kernel alone", w, 0, 0)
}

// A turn that goes on has To of now, also where another hand does the core's steps.
func TestTurnThatGoesOn(t *testing.T) {
	c := machine(t, laid{0: {alone("mret")}, taskAt: {three("div", 1, 1, 1), one("jal", 0, -4)}})
	c.Put(toTask(taskAt))
	w := watched(t, c, bothParts()...)
	run(t, w, 1)
	for n, to := range []int{4, 24, 26, 46, 48} {
		expectTurns(t, "it goes on", w, api.Turn{Task: 1, From: 4, To: to, N: n})
		expectTurns(t, "told once more", w, api.Turn{Task: 1, From: 4, To: to, N: n})
		run(t, w, 1)
	}
	c.Step()
	expectTurns(t, "beside the watch", w, api.Turn{Task: 1, From: 4, To: 70, N: 5})
}

// A core that is a task's ahead of the first turn.
func TestUserAheadOfTheFirstTurn(t *testing.T) {
	c := machine(t, laid{
		trapAt: onward(),
		taskAt: {alone("fence"), alone("fence"), alone("ecall"), alone("fence"), alone("ebreak"), alone("fence")},
	})
	r := toTask(0)
	r.User, r.PC = true, taskAt
	c.Put(r)
	w := watched(t, c, bothParts()...)
	for range 2 {
		run(t, w, 1)
		expectTurns(t, "ahead of the first", w)
		expectWays(t, "ahead of the first", w, 0, 0)
	}
	run(t, w, 1)
	expectTurns(t, "its way out", w)
	expectWays(t, "its way out", w, 0, 1)
	if r := w.Outs()[0]; r.Cause != 8 || r.Epc != taskAt+8 || r.User {
		t.Errorf("7.2: its way out: %+v", r)
	}
	run(t, w, 4)
	expectTurns(t, "the first one", w, api.Turn{Task: 1, From: 13, To: 13})
	expectWays(t, "the first one", w, 1, 1)
	run(t, w, 2)
	expectTurns(t, "its end", w, api.Turn{Task: 1, From: 13, To: 14, N: 1})
	expectWays(t, "its end", w, 1, 2)
	if r := w.Outs()[1]; r.Cause != 3 || r.Epc != taskAt+16 {
		t.Errorf("7.2: Outs of the first one: %+v", r)
	}
	run(t, w, 5)
	expectTurns(t, "two", w, api.Turn{Task: 1, From: 13, To: 14, N: 1}, api.Turn{Task: 1, From: 25, To: 26, N: 1})
}

// A core that is put to a task by hand has no turn, and adds nothing to the last one.
func TestUserByHandBehindATurn(t *testing.T) {
	c := machine(t, laid{0: {alone("mret")}, taskAt: {alone("fence"), alone("ecall")}})
	c.Put(toTask(taskAt))
	w := watched(t, c, bothParts()...)
	run(t, w, 3)
	r := toTask(0)
	r.User, r.PC = true, taskAt
	c.Put(r)
	run(t, w, 1)
	want := api.Turn{Task: 1, From: 4, To: 5, N: 1}
	expectTurns(t, "by hand", w, want)
	expectWays(t, "by hand", w, 1, 1)
	run(t, w, 1)
	expectTurns(t, "its way out", w, want)
	expectWays(t, "its way out", w, 1, 2)
}

// Two tasks by turns: the kernel's X 10 and X 11 hold where each goes on.
func TestTurnsOfTwoTasks(t *testing.T) {
	c := machine(t, laid{
		0: {alone("mret")},
		trapAt: {
			two("csrrs", 12, 0, api.CEpc), two("addi", 12, 12, 4), two("csrrw", 0, 10, api.CEpc),
			two("addi", 10, 12, 0), alone("mret"),
		},
		taskAt:  {alone("fence"), alone("ecall"), alone("ecall"), three("mul", 1, 1, 1), alone("fence"), alone("ebreak")},
		otherAt: {alone("ebreak"), three("rem", 1, 1, 1), two("lw", 1, 0, 2), one("jal", 0, 0)},
	})
	r := toTask(taskAt)
	r.X[10] = otherAt
	c.Put(r)
	w := watched(t, c, bothParts()...)
	run(t, w, 1+2+5+1+5+1+5+2+5+3+5+4)
	// The way out takes 4, the kernel 4, mret 4.
	expectTurns(t, "of two tasks", w,
		api.Turn{Task: 1, From: 4, To: 5, N: 1},
		api.Turn{Task: 0, From: 17, To: 17},
		api.Turn{Task: 1, From: 29, To: 29},
		api.Turn{Task: 0, From: 41, To: 61, N: 1},
		api.Turn{Task: 1, From: 73, To: 77, N: 2},
		api.Turn{Task: 0, From: 89, To: 97, N: 4},
	)
	expectWays(t, "of two tasks", w, 6, 5)
	var pcs, causes, epcs []uint32
	for _, r := range w.Ins() {
		pcs = append(pcs, r.PC)
	}
	for _, r := range w.Outs() {
		causes, epcs = append(causes, r.Cause), append(epcs, r.Epc)
	}
	if !slices.Equal(pcs, []uint32{0x80, 0x100, 0x88, 0x104, 0x8c, 0x10c}) {
		t.Errorf("7.2: Ins in order: %x", pcs)
	}
	if !slices.Equal(causes, []uint32{8, 3, 8, 4, 3}) || !slices.Equal(epcs, []uint32{0x84, 0x100, 0x88, 0x108, 0x94}) {
		t.Errorf("7.2: Outs in order: %x of %x", causes, epcs)
	}
}

// The timer leads out and comes late: To is the time ahead of it, the next From hangs on how late it was.
func TestTimer(t *testing.T) {
	for _, v := range []struct {
		late []int
		want [4]int // how late each comes
	}{
		{nil, [4]int{}}, {[]int{7}, [4]int{7}}, {[]int{5, 0, 9, 100}, [4]int{5, 0, 9, 100}}, {[]int{-3, 1}, [4]int{0, 1}},
	} {
		c := machine(t, laid{
			0:      {pair("sw", 6, 7, 0), alone("mret")},
			trapAt: {alone("fence"), pair("sw", 6, 7, 0), alone("mret")},
			taskAt: {three("mul", 1, 1, 1), one("jal", 0, -4)},
		}, v.late...)
		r := toTask(taskAt)
		r.X[7], r.Ie = 16, 0x80
		c.Put(r)
		w := watched(t, c, bothParts()...)
		run(t, w, 2)
		from := 6
		var want []api.Turn
		// 12 of the 16 cycles are the task's: 3, 2, 3, 2, 3 reach them, or 2, 3, 2, 3, 2
		for k, late := range v.want {
			n := 5
			to := from + 13 - k%2
			want = append(want, api.Turn{Task: 1, From: from, To: to, N: n})
			run(t, w, n)
			expectTurns(t, "ahead of the timer", w, want...)
			run(t, w, 1)
			expectTurns(t, "behind the timer", w, want...)
			expectWays(t, "behind the timer", w, k+1, k+1)
			if r := w.Outs()[k]; r.Cause != 1<<31+7 || r.PC != trapAt || c.Time() != to+4+late {
				t.Errorf("7.2: Outs of the timer: %+v at %d", r, c.Time())
			}
			run(t, w, 3)
			from = to + 4 + late + 1 + 2 + 4
		}
	}
}

// A timer that is due at once: the step that leads out is the timer's, no instruction is done.
func TestTimerAtOnce(t *testing.T) {
	c := machine(t, laid{0: {pair("sw", 6, 0, 0), alone("mret")}, taskAt: {two("addi", 1, 1, 1)}}, 20)
	r := toTask(taskAt)
	r.Ie = 0x80
	c.Put(r)
	w := watched(t, c, bothParts()...)
	run(t, w, 3)
	expectTurns(t, "a timer at once", w, api.Turn{Task: 1, From: 6, To: 6})
	if r := w.Outs()[0]; r.Cause != 1<<31+7 || r.Epc != taskAt || r.X[1] != 0 || c.Time() != 30 {
		t.Errorf("7.2: Outs of a timer at once: %+v at %d", r, c.Time())
	}
}

// A timer that comes while the kernel is on leads nowhere, as turns go.
func TestTimerOfTheKernel(t *testing.T) {
	c := machine(t, laid{0: {pair("sw", 6, 0, 0), alone("fence")}}, 20)
	r := toTask(taskAt)
	r.Ie, r.Status = 0x80, 8
	c.Put(r)
	w := watched(t, c, bothParts()...)
	run(t, w, 2)
	if c.Regs().Cause != 1<<31+7 {
		t.Error("6.2: the timer has not come", c.Regs())
	}
	expectTurns(t, "the kernel's timer", w)
	expectWays(t, "the kernel's timer", w, 0, 0)
}

func TestTask(t *testing.T) {
	whole := api.Region{Lo: 0, Hi: 4 * size}
	for _, v := range []struct {
		what  string
		parts []api.Region
		pc    uint32
		want  int
	}{
		{"no parts", nil, taskAt, -1},
		{"an empty list of parts", []api.Region{}, taskAt, -1},
		{"in the only one", []api.Region{whole}, taskAt, 0},
		{"Lo", []api.Region{{Lo: 0x80, Hi: 0x90}}, 0x80, 0},
		{"ahead of Lo", []api.Region{{Lo: 0x84, Hi: 0x90}}, 0x80, -1},
		{"Lo is one more", []api.Region{{Lo: 0x81, Hi: 0x90}}, 0x80, -1},
		{"the last byte", []api.Region{{Lo: 0x80, Hi: 0x90}}, 0x8f, 0},
		{"the last word", []api.Region{{Lo: 0x80, Hi: 0x90}}, 0x8c, 0},
		{"Hi", []api.Region{{Lo: 0x80, Hi: 0x90}}, 0x90, -1},
		{"Hi is one more", []api.Region{{Lo: 0x80, Hi: 0x81}}, 0x80, 0},
		{"nothing between", []api.Region{{Lo: 0x80, Hi: 0x80}}, 0x80, -1},
		{"Hi below Lo", []api.Region{{Lo: 0x90, Hi: 0x70}}, 0x80, -1},
		{"none of three", []api.Region{{Lo: 0, Hi: 0x80}, {Lo: 0x84, Hi: 0x200}, {}}, 0x80, -1},
		{"the last of three", []api.Region{{Lo: 0, Hi: 0x80}, {Lo: 0x84, Hi: 0x200}, {Lo: 0x80, Hi: 0x84}}, 0x80, 2},
		{"the first of two that are alike", []api.Region{{}, {Lo: 0x80, Hi: 0x84}, {Lo: 0x80, Hi: 0x84}}, 0x80, 1},
		{"the first, a wider one", []api.Region{whole, {Lo: 0x80, Hi: 0x84}}, 0x80, 0},
		{"the first, a narrower one", []api.Region{{Lo: 0x80, Hi: 0x84}, whole}, 0x80, 0},
		{"the second, where the first ends", []api.Region{{Lo: 0x80, Hi: 0x84}, whole}, 0x84, 1},
		{"what it may do doesn't count", []api.Region{{Lo: 0x80, Hi: 0x84, W: true}, {Lo: 0x80, Hi: 0x84, X: true}}, 0x80, 0},
		{"address 0", []api.Region{{Lo: 0, Hi: 1}}, 0, 0},
		{"high up", []api.Region{whole, {Lo: 1 << 31, Hi: math.MaxUint32}}, 0xfffffffe, 1},
		{"the highest address", []api.Region{whole, {Lo: 0, Hi: math.MaxUint32}}, 0xffffffff, -1},
	} {
		c := machine(t, laid{0: {alone("mret")}})
		c.Put(toTask(v.pc))
		w := watched(t, c, v.parts...)
		run(t, w, 1)
		expectTurns(t, v.what, w, api.Turn{Task: v.want, From: 4, To: 4})
		expectWays(t, v.what, w, 1, 0)
		if r := w.Ins()[0]; r.PC != v.pc {
			t.Errorf("7.2: %s: Ins %+v", v.what, r)
		}
	}
}

// A turn is of the task that it began with, wherever it goes.
func TestTaskOfTheBeginning(t *testing.T) {
	c := machine(t, laid{0: {alone("mret")}, taskAt: {one("jal", 0, otherAt-taskAt)}, otherAt: {alone("fence"), alone("ecall")}})
	c.Put(toTask(taskAt))
	w := watched(t, c, bothParts()...)
	run(t, w, 4)
	expectTurns(t, "a task that goes elsewhere", w, api.Turn{Task: 1, From: 4, To: 7, N: 2})
}

// Ins has the registers of then, and Outs too, whatever comes of the core later.
func TestInsAndOutsAreOfThen(t *testing.T) {
	c := machine(t, laid{
		0:      {two("addi", 1, 0, 5), alone("mret")},
		trapAt: {two("addi", 1, 1, 100), one("jal", 0, -4)},
		taskAt: {two("addi", 1, 1, 10), alone("ecall")},
	})
	c.Put(toTask(taskAt))
	w := watched(t, c)
	run(t, w, 2)
	in := c.Regs()
	run(t, w, 2)
	out := c.Regs()
	run(t, w, 9)
	if l := w.Ins(); len(l) != 1 || l[0] != in || in.X[1] != 5 || !in.User {
		t.Errorf("7.2: Ins %+v, not %+v", l, in)
	}
	if l := w.Outs(); len(l) != 1 || l[0] != out || out.X[1] != 15 || out.User {
		t.Errorf("7.2: Outs %+v, not %+v", l, out)
	}
}

// Two watches of one core: what one of them leads out of ends for the other one where its next turn begins, at the
// latest.
func TestTwoWatchesOfOneCore(t *testing.T) {
	c := machine(t, laid{0: {alone("mret")}, trapAt: onward(), taskAt: {alone("fence"), alone("ecall"), alone("fence"), alone("ecall")}})
	c.Put(toTask(taskAt))
	w, v := watched(t, c, bothParts()...), watched(t, c)
	run(t, w, 2)
	run(t, v, 1)
	expectTurns(t, "the other one", v)
	expectWays(t, "the other one", v, 0, 1)
	run(t, w, 4)
	l := w.Turns()
	if len(l) != 2 || l[0].To < 5 || l[0].To > l[1].From || l[1] != (api.Turn{Task: 1, From: 16, To: 16}) || l[0].N != 1 {
		t.Errorf("7.3: %+v", l)
	}
	run(t, w, 2)
	if k := w.Turns(); len(k) != 2 || k[0] != l[0] || k[1] != (api.Turn{Task: 1, From: 16, To: 17, N: 1}) {
		t.Errorf("7.3: later %+v", k)
	}
	expectWays(t, "the first one", w, 2, 1)
	if len(w.Leaks()) != 8 || len(v.Leaks()) != 1 {
		t.Error("7.1: Leaks of two", w.Leaks(), v.Leaks())
	}
}

func TestNil(t *testing.T) {
	var w *Watch
	for _, n := range []int{-1, 0, 1, 5, math.MaxInt} {
		if got := w.Run(n); got != 0 {
			t.Errorf("7.2: Run of nil: %d", got)
		}
	}
	if len(w.Leaks())+len(w.Turns())+len(w.Ins())+len(w.Outs()) != 0 {
		t.Error("7.2: methods of nil", w.Leaks(), w.Turns(), w.Ins(), w.Outs())
	}
}

func TestZeroWatch(t *testing.T) {
	var w Watch
	if w.Run(5) != 0 || len(w.Leaks())+len(w.Turns())+len(w.Ins())+len(w.Outs()) != 0 {
		t.Error("R1: a watch of no core", w)
	}
}

func TestNewKeepsNothing(t *testing.T) {
	c := machine(t, laid{0: {alone("mret")}, trapAt: onward(), taskAt: {alone("ecall"), alone("ecall")}})
	c.Put(toTask(taskAt))
	parts := bothParts()
	w := New(c, parts)
	parts[0], parts[1] = parts[1], parts[0]
	run(t, w, 1)
	parts[1] = api.Region{}
	run(t, w, 5)
	expectTurns(t, "R3: parts that were turned", w, api.Turn{Task: 1, From: 4, To: 4}, api.Turn{Task: 1, From: 15, To: 15})
}

func TestNewChangesNothing(t *testing.T) {
	parts := append(make([]api.Region, 0, 8), bothParts()...)
	c := machine(t, laid{0: {alone("mret")}})
	c.Put(toTask(taskAt))
	run(t, New(c, parts), 1)
	if !slices.Equal(parts[:2], bothParts()) || parts[:8][2] != (api.Region{}) {
		t.Error("R3: parts were changed", parts[:8])
	}
}

// spoil writes over all of a list, and over the spare room behind it.
func spoil[T any](l []T, with T) {
	all := l[:cap(l)]
	for i := range all {
		all[i] = with
	}
}

// One watch has its lists spoilt behind each step, the other one's are told for the first time at the end.
func TestWhatIsToldIsNewMemory(t *testing.T) {
	var l [2]*Watch
	for i := range l {
		c := machine(t, laid{0: {alone("mret")}, trapAt: onward(), taskAt: slices.Repeat([]api.Ins{alone("ecall")}, 8)})
		c.Put(toTask(taskAt))
		l[i] = watched(t, c, bothParts()...)
	}
	for range 40 {
		run(t, l[0], 1)
		run(t, l[1], 1)
		first := l[0].Turns()
		spoil(l[0].Leaks(), api.Leak{PC: 1, At: 1, Time: 1})
		spoil(l[0].Turns(), api.Turn{Task: 9, From: 9, To: 9, N: 9})
		spoil(l[0].Ins(), api.Regs{PC: 9})
		spoil(l[0].Outs(), api.Regs{PC: 9})
		if !slices.Equal(first, l[0].Turns()) {
			t.Fatal("R3: what was told ahead", first)
		}
	}
	expectSame(t, "R3: what was told", l[0], l[1])
	expectWays(t, "all of them", l[0], 8, 8)
}

// What was told stays as it was, whatever is done later.
func TestWhatWasToldStays(t *testing.T) {
	c := machine(t, laid{0: {alone("mret")}, trapAt: onward(), taskAt: {alone("fence"), alone("ecall"), alone("fence"), alone("ecall")}})
	c.Put(toTask(taskAt))
	w := watched(t, c, bothParts()...)
	run(t, w, 1)
	leaks, turns, ins := w.Leaks(), w.Turns(), w.Ins()
	run(t, w, 2)
	outs := w.Outs()
	run(t, w, 6)
	if !slices.Equal(turns, []api.Turn{{Task: 1, From: 4, To: 4}}) || len(leaks) != 1 || len(ins) != 1 || ins[0].PC != taskAt {
		t.Error("R3: what was told", leaks, turns, ins)
	}
	if len(outs) != 1 || outs[0].Epc != taskAt+4 {
		t.Error("R3: what was told", outs)
	}
}
