package watch

import (
	"math/rand"
	"slices"
	"testing"

	"footman/api"
	"footman/core"
)

// A second reading of chapter 7: all states of a core lie in one list, and each answer is worked out of the whole list.
type state struct {
	r    api.Regs
	time int
}

type reading struct {
	states []state // one ahead of the first step, one behind each
	leaks  []api.Leak
	parts  []api.Region
}

func read(c *core.Core, parts []api.Region, most int) *reading {
	a := &reading{states: []state{{c.Regs(), c.Time()}}, parts: parts}
	for range most {
		if !c.Step() {
			break
		}
		a.states = append(a.states, state{c.Regs(), c.Time()})
		a.leaks = append(a.leaks, c.Leak())
	}
	return a
}

// ways tells, of the first n steps, the places of those that led in, or out.
func (a *reading) ways(n int, in bool) []int {
	var l []int
	for k := range n {
		if a.states[k].r.User != in && a.states[k+1].r.User == in {
			l = append(l, k)
		}
	}
	return l
}

func (a *reading) behind(l []int) []api.Regs {
	var out []api.Regs
	for _, k := range l {
		out = append(out, a.states[k+1].r)
	}
	return out
}

func (a *reading) task(pc uint32) int {
	for i := range a.parts {
		for at := uint64(a.parts[i].Lo); at < uint64(a.parts[i].Hi); at++ {
			if at == uint64(pc) {
				return i
			}
		}
	}
	return -1
}

func (a *reading) turns(n int) []api.Turn {
	var l []api.Turn
	outs := a.ways(n, false)
	for _, in := range a.ways(n, true) {
		u := api.Turn{Task: a.task(a.states[in+1].r.PC), From: a.states[in+1].time, To: a.states[n].time}
		until := n
		for _, out := range slices.Backward(outs) {
			if out > in {
				u.To, until = a.states[out].time, out
			}
		}
		for k := in + 1; k < until; k++ {
			if !a.trapped(k) {
				u.N++
			}
		}
		l = append(l, u)
	}
	return l
}

// A fault or a timer shows in the registers: Epc is where the step was, PC is Tvec, and no instruction of a task but
// those can make both so and leave the task's rights.
func (a *reading) trapped(k int) bool {
	x, y := a.states[k].r, a.states[k+1].r
	return y.Epc == x.PC && y.PC == x.Tvec && !y.User
}

// anyMachine is a kernel with two tasks of chance, which do what ends turns now and then, and a timer that comes late.
func anyMachine(t *testing.T, seed int64) *core.Core {
	t.Helper()
	r := rand.New(rand.NewSource(seed))
	kernel := []api.Ins{pair("sw", 6, 7, 0), alone("mret")}
	back := onward()
	if r.Intn(2) == 0 {
		back = append([]api.Ins{pair("sw", 6, 7, 0)}, back...)
	}
	if r.Intn(2) == 0 {
		// the other task's turn: X 10 is where it goes on
		back = append(back[:len(back)-2], two("csrrw", 0, 10, api.CEpc), two("addi", 10, 20, 0), alone("mret"))
	}
	if r.Intn(3) == 0 {
		// so often, then the end
		back = append([]api.Ins{two("addi", 11, 11, -1), pair("bne", 11, 0, 8), pair("sw", 6, 0, 16)}, back...)
	}
	c := machine(t, laid{0: kernel, trapAt: back, taskAt: anyTask(r), otherAt: anyTask(r)}, r.Intn(9)-2, r.Intn(9), r.Intn(99))
	s := toTask(taskAt)
	s.X[7], s.X[10], s.X[11] = uint32(r.Intn(40)), otherAt, uint32(1+r.Intn(9))
	s.Ie = 0x80 * uint32(r.Intn(2))
	if r.Intn(4) == 0 {
		s.User, s.PC = true, taskAt+4*uint32(r.Intn(9))
	}
	c.Put(s)
	return c
}

// anyTask is 20 instructions, the last of which leads to the first.
func anyTask(r *rand.Rand) []api.Ins {
	some := []api.Ins{
		two("addi", 1, 1, 1), three("mul", 2, 1, 1), three("divu", 3, 2, 1), two("lw", 4, 0, 0x1fc), pair("sw", 0, 1, 0x1fc),
		alone("fence"), one("jal", 0, 4), pair("beq", 1, 2, 8), pair("bltu", 1, 2, 4), three("xor", 5, 4, 1),
		alone("ecall"), alone("ebreak"), two("lw", 1, 0, 2), pair("sw", 6, 0, 16), alone("mret"),
	}
	var l []api.Ins
	for range 19 {
		l = append(l, some[r.Intn(len(some))])
	}
	return append(l, one("jal", 0, -76))
}

func anyParts(r *rand.Rand) []api.Region {
	var l []api.Region
	for range r.Intn(5) {
		lo := uint32(taskAt + r.Intn(0x100))
		l = append(l, api.Region{Lo: lo, Hi: lo + uint32(r.Intn(0x100)), X: r.Intn(2) == 0, W: r.Intn(2) == 0})
	}
	return l
}

func same(t *testing.T, w *Watch, a *reading, n int, seed int64) {
	t.Helper()
	if !slices.Equal(w.Leaks(), a.leaks[:n]) {
		t.Fatalf("7.1: seed %d, %d steps: Leaks", seed, n)
	}
	if got, want := w.Turns(), a.turns(n); !slices.Equal(got, want) {
		t.Fatalf("7.2: seed %d, %d steps: Turns %+v, not %+v", seed, n, got, want)
	}
	if got, want := w.Ins(), a.behind(a.ways(n, true)); !slices.Equal(got, want) {
		t.Fatalf("7.2: seed %d, %d steps: Ins %+v, not %+v", seed, n, got, want)
	}
	if got, want := w.Outs(), a.behind(a.ways(n, false)); !slices.Equal(got, want) {
		t.Fatalf("7.2: seed %d, %d steps: Outs %+v, not %+v", seed, n, got, want)
	}
}

// behindOneAnother is 7.3: a turn takes at least a cycle for each of its steps, and ends ahead of the next one.
func behindOneAnother(t *testing.T, l []api.Turn, now int) {
	t.Helper()
	last := 0
	for _, u := range l {
		if u.From < last || u.To-u.From < u.N || u.N < 0 {
			t.Fatalf("7.3: %+v", l)
		}
		last = u.To
	}
	if last > now {
		t.Fatalf("7.3: %+v at %d", l, now)
	}
}

const most = 120

// Machines of chance, run in parts of chance, held against the reading behind each part.
func TestReadAgain(t *testing.T) {
	turns, stops, wide := 0, 0, 0
	for seed := range int64(400) {
		r := rand.New(rand.NewSource(seed))
		parts := anyParts(r)
		a := read(anyMachine(t, seed), parts, most)
		c := anyMachine(t, seed)
		w := watched(t, c, parts...)
		n := 0
		for n < most {
			ask := min(r.Intn(12)-2, most-n)
			got := w.Run(ask)
			if want := max(0, min(ask, len(a.leaks)-n)); got != want {
				t.Fatalf("7.1: seed %d: Run of %d behind %d: %d, not %d", seed, ask, n, got, want)
			}
			n += got
			if n == len(a.leaks) {
				break
			}
			same(t, w, a, n, seed)
			behindOneAnother(t, w.Turns(), c.Time())
		}
		same(t, w, a, n, seed)
		turns += len(w.Turns())
		if n < most {
			stops++
		}
		if slices.ContainsFunc(w.Turns(), func(u api.Turn) bool { return u.Task > 1 }) {
			wide++
		}
	}
	if turns < 2000 || stops < 20 || wide < 20 {
		t.Error("too few turns, stops or parts", turns, stops, wide)
	}
}

func told(w *Watch) ([]api.Leak, []api.Turn, []api.Regs, []api.Regs) {
	return w.Leaks(), w.Turns(), w.Ins(), w.Outs()
}

func expectSame(t *testing.T, what string, w, v *Watch) {
	t.Helper()
	leaks, turns, ins, outs := told(w)
	leaks2, turns2, ins2, outs2 := told(v)
	if !slices.Equal(leaks, leaks2) || !slices.Equal(turns, turns2) || !slices.Equal(ins, ins2) || !slices.Equal(outs, outs2) {
		t.Fatalf("7.1: %s: %+v, not %+v", what, turns, turns2)
	}
}

// Run in parts tells what Run at once tells, however often the lists are asked for between.
func TestRunInParts(t *testing.T) {
	for seed := range int64(60) {
		whole := watched(t, anyMachine(t, seed), bothParts()...)
		n := whole.Run(most)
		for _, by := range []int{1, 2, 7, 50} {
			w := watched(t, anyMachine(t, seed), bothParts()...)
			done := 0
			for done < most {
				got := w.Run(min(by, most-done))
				if done += got; got == 0 {
					break
				}
				told(w)
			}
			if done != n {
				t.Fatalf("7.1: in parts of %d: %d steps, not %d", by, done, n)
			}
			expectSame(t, "in parts", w, whole)
		}
	}
}

// Two that are the same tell the same, whatever a third one does between.
func TestSameCallsTellTheSame(t *testing.T) {
	for seed := range int64(60) {
		w := watched(t, anyMachine(t, seed), bothParts()...)
		v := watched(t, anyMachine(t, seed), bothParts()...)
		u := watched(t, anyMachine(t, seed+1))
		for range 10 {
			w.Run(9)
		}
		for range 10 {
			v.Run(9)
			u.Run(7)
		}
		expectSame(t, "R5: two that are the same", w, v)
	}
}
