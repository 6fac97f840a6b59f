package ledger

import (
	"math"
	"testing"

	"tintype/api"
)

// state is all that a ledger tells of itself.
type state struct {
	bytes, peak, steps int
	broken             bool
	first              Refusal
	refused            bool
}

func look(l *Ledger) state {
	first, refused := l.First()
	return state{l.Bytes(), l.Peak(), l.Steps(), l.Broken(), first, refused}
}

func expect(t *testing.T, l *Ledger, want state) {
	t.Helper()
	if got := look(l); got != want {
		t.Errorf("%+v, not %+v", got, want)
	}
}

// broken is the state of a ledger that refused something.
func broken(bytes, peak, steps, reason, asked int) state {
	return state{bytes, peak, steps, true, Refusal{reason, asked}, true}
}

func TestReasons(t *testing.T) {
	if Sides != 1 || Bytes != 2 || Work != 3 {
		t.Error(Sides, Bytes, Work)
	}
}

// P2.1: a new ledger has counts of 0, and its budget none below 0.
func TestNew(t *testing.T) {
	cases := []struct{ given, want api.Budget }{
		{api.Budget{}, api.Budget{}},
		{api.Budget{MaxWidth: 1, MaxHeight: 2, MaxBytes: 3, MaxWork: 4}, api.Budget{MaxWidth: 1, MaxHeight: 2, MaxBytes: 3, MaxWork: 4}},
		{api.Budget{MaxWidth: -1, MaxHeight: 2, MaxBytes: 3, MaxWork: 4}, api.Budget{MaxHeight: 2, MaxBytes: 3, MaxWork: 4}},
		{api.Budget{MaxWidth: 1, MaxHeight: -1, MaxBytes: 3, MaxWork: 4}, api.Budget{MaxWidth: 1, MaxBytes: 3, MaxWork: 4}},
		{api.Budget{MaxWidth: 1, MaxHeight: 2, MaxBytes: math.MinInt, MaxWork: 4}, api.Budget{MaxWidth: 1, MaxHeight: 2, MaxWork: 4}},
		{api.Budget{MaxWidth: 1, MaxHeight: 2, MaxBytes: 3, MaxWork: -9}, api.Budget{MaxWidth: 1, MaxHeight: 2, MaxBytes: 3}},
		{api.Budget{MaxWidth: math.MaxInt, MaxHeight: math.MaxInt, MaxBytes: math.MaxInt, MaxWork: math.MaxInt}, api.Budget{MaxWidth: math.MaxInt, MaxHeight: math.MaxInt, MaxBytes: math.MaxInt, MaxWork: math.MaxInt}},
	}
	for _, c := range cases {
		l := New(c.given)
		if got := l.Budget(); got != c.want {
			t.Errorf("the budget of %+v is %+v", c.given, got)
		}
		expect(t, l, state{})
	}
}

// P2.1: sides are at least 1 and at most the budget's; of both the width is asked first.
func TestSides(t *testing.T) {
	cases := []struct {
		width, height int
		let           bool
		asked         int
	}{
		{1, 1, true, 0}, {5, 7, true, 0}, {5, 1, true, 0}, {1, 7, true, 0},
		{0, 1, false, 0}, {1, 0, false, 0}, {-1, 1, false, -1}, {1, -2, false, -2},
		{6, 7, false, 6}, {5, 8, false, 8}, {6, 8, false, 6}, {0, 8, false, 0}, {7, 5, false, 7},
		{math.MaxInt, 1, false, math.MaxInt}, {1, math.MaxInt, false, math.MaxInt},
		{math.MinInt, 1, false, math.MinInt}, {1, math.MinInt, false, math.MinInt},
	}
	for _, c := range cases {
		l := New(api.Budget{MaxWidth: 5, MaxHeight: 7})
		if got := l.Sides(c.width, c.height); got != c.let {
			t.Errorf("Sides(%d, %d) = %t", c.width, c.height, got)
		}
		want := state{}
		if !c.let {
			want = broken(0, 0, 0, Sides, c.asked)
		}
		expect(t, l, want)
	}
	if New(api.Budget{MaxHeight: 5}).Sides(0, 1) || New(api.Budget{MaxWidth: 5}).Sides(1, 0) {
		t.Error("sides of 0 of a budget of 0")
	}
}

// P2.1: the example of the chapter.
func TestExample(t *testing.T) {
	l := New(api.Budget{MaxBytes: 10})
	if !l.Take(8) {
		t.Error("8 of 10")
	}
	expect(t, l, state{bytes: 8, peak: 8})
	if l.Take(3) {
		t.Error("11 of 10")
	}
	expect(t, l, broken(8, 8, 0, Bytes, 3))
	if l.Take(1) {
		t.Error("behind a refusal")
	}
	expect(t, l, broken(8, 8, 0, Bytes, 3))
	if !l.Give(8) {
		t.Error("given back")
	}
	expect(t, l, broken(0, 8, 0, Bytes, 3))
}

// P2.1, P2.2: bytes up to the budget, given back, and taken once more; the peak stays.
func TestBytes(t *testing.T) {
	l := New(api.Budget{MaxBytes: 10})
	if !l.Take(0) || !l.Take(4) || !l.Give(1) || !l.Take(2) {
		t.Error("4, less 1, and 2")
	}
	expect(t, l, state{bytes: 5, peak: 5})
	if !l.Give(5) || !l.Take(3) || l.Give(4) || !l.Give(0) || l.Give(-1) || l.Give(math.MinInt) || l.Give(math.MaxInt) {
		t.Error("3, less 0")
	}
	expect(t, l, state{bytes: 3, peak: 5})
	if !l.Take(7) {
		t.Error("10 of 10")
	}
	expect(t, l, state{bytes: 10, peak: 10})
	if !l.Take(0) || l.Take(1) || l.Take(0) {
		t.Error("11 of 10")
	}
	expect(t, l, broken(10, 10, 0, Bytes, 1))
}

// P2.1, P2.2: steps up to the budget.
func TestWork(t *testing.T) {
	l := New(api.Budget{MaxWork: 3})
	if !l.Work(0) || !l.Work(1) || !l.Work(2) || !l.Work(0) {
		t.Error("3 of 3")
	}
	expect(t, l, state{steps: 3})
	if l.Work(2) || l.Work(0) || l.Work(1) {
		t.Error("5 of 3")
	}
	expect(t, l, broken(0, 0, 3, Work, 2))
}

// P2.1: numbers below 0, and so great that a sum would run over, are refused, and nothing is counted.
func TestWrongNumbers(t *testing.T) {
	whole := api.Budget{MaxWidth: 9, MaxHeight: 9, MaxBytes: math.MaxInt, MaxWork: math.MaxInt}
	for _, n := range []int{-1, math.MinInt, math.MaxInt} {
		l := New(whole)
		if !l.Take(1) || l.Take(n) {
			t.Errorf("Take(%d)", n)
		}
		expect(t, l, broken(1, 1, 0, Bytes, n))
		l = New(whole)
		if !l.Work(1) || l.Work(n) {
			t.Errorf("Work(%d)", n)
		}
		expect(t, l, broken(0, 0, 1, Work, n))
	}
	l := New(whole)
	if !l.Take(math.MaxInt) || !l.Work(math.MaxInt) || !l.Give(math.MaxInt) {
		t.Error("all of the greatest budget")
	}
	expect(t, l, state{peak: math.MaxInt, steps: math.MaxInt})
}

// P2.1: behind the first refusal, of each reason, all that is asked for is refused, and the first one stays.
func TestFirst(t *testing.T) {
	cases := []struct {
		name  string
		ask   func(l *Ledger) bool
		first Refusal
	}{
		{"sides", func(l *Ledger) bool { return l.Sides(3, 1) }, Refusal{Sides, 3}},
		{"bytes", func(l *Ledger) bool { return l.Take(9) }, Refusal{Bytes, 9}},
		{"work", func(l *Ledger) bool { return l.Work(8) }, Refusal{Work, 8}},
	}
	for _, c := range cases {
		l := New(api.Budget{MaxWidth: 2, MaxHeight: 2, MaxBytes: 5, MaxWork: 5})
		if !l.Sides(2, 2) || !l.Take(3) || !l.Work(4) || l.Broken() || c.ask(l) {
			t.Errorf("%s: refused too soon, or not", c.name)
		}
		want := state{3, 3, 4, true, c.first, true}
		expect(t, l, want)
		for range 2 {
			if l.Sides(1, 1) || l.Take(0) || l.Take(1) || l.Work(0) || l.Work(1) || l.Sides(0, 0) || l.Take(-1) || l.Work(-1) {
				t.Errorf("%s: let behind a refusal", c.name)
			}
			expect(t, l, want)
		}
		if !l.Give(2) || l.Give(2) {
			t.Errorf("%s: given back", c.name)
		}
		want.bytes = 1
		expect(t, l, want)
	}
}

// What fails to be given back is no refusal.
func TestGiveIsNotAsked(t *testing.T) {
	l := New(api.Budget{MaxBytes: 5})
	if l.Give(1) || l.Give(-1) || !l.Give(0) {
		t.Error("nothing is kept")
	}
	expect(t, l, state{})
}

// Two ledgers of one budget don't share their counts.
func TestTwoLedgers(t *testing.T) {
	b := api.Budget{MaxBytes: 5, MaxWork: 5}
	one, other := New(b), New(b)
	one.Take(2)
	one.Work(6)
	expect(t, one, broken(2, 2, 0, Work, 6))
	expect(t, other, state{})
}

// model is a ledger as the chapter has it, step by step.
type model struct {
	g api.Budget
	s state
}

func (m *model) ask(let bool, reason, asked int) bool {
	if m.s.broken {
		return false
	}
	if !let {
		m.s.broken, m.s.refused, m.s.first = true, true, Refusal{reason, asked}
	}
	return let
}

func (m *model) sides(w, h int) bool {
	right := 1 <= w && w <= m.g.MaxWidth
	asked := h
	if !right {
		asked = w
	}
	return m.ask(right && 1 <= h && h <= m.g.MaxHeight, Sides, asked)
}

func (m *model) take(n int) bool {
	let := m.ask(n >= 0 && m.s.bytes+n <= m.g.MaxBytes, Bytes, n)
	if let {
		m.s.bytes += n
		m.s.peak = max(m.s.peak, m.s.bytes)
	}
	return let
}

func (m *model) give(n int) bool {
	if n < 0 || n > m.s.bytes {
		return false
	}
	m.s.bytes -= n
	return true
}

func (m *model) work(n int) bool {
	let := m.ask(n >= 0 && m.s.steps+n <= m.g.MaxWork, Work, n)
	if let {
		m.s.steps += n
	}
	return let
}

// P2.1, P2.2: behind any calls a ledger tells what the model does, and never more than its budget.
func TestAnyCalls(t *testing.T) {
	seed := uint32(1)
	next := func(n int) int {
		seed = seed*1664525 + 1013904223
		return int(seed>>8) % n
	}
	for game := range 2000 {
		b := api.Budget{MaxWidth: next(5), MaxHeight: next(5), MaxBytes: next(40), MaxWork: next(40)}
		l, m := New(b), &model{g: b}
		for move := range 30 {
			var got, want bool
			switch next(4) {
			case 0:
				w, h := 1+next(b.MaxWidth+1), 1+next(b.MaxHeight+1)
				got, want = l.Sides(w, h), m.sides(w, h)
			case 1:
				n := next(12) - next(2)
				got, want = l.Take(n), m.take(n)
			case 2:
				n := next(12) - next(2)
				got, want = l.Give(n), m.give(n)
			case 3:
				n := next(9) - next(2)
				got, want = l.Work(n), m.work(n)
			}
			if got != want || look(l) != m.s {
				t.Fatalf("game %d, move %d: %t %+v, not %t %+v", game, move, got, look(l), want, m.s)
			}
			if l.Peak() > b.MaxBytes || l.Bytes() > l.Peak() || l.Steps() > b.MaxWork || l.Budget() != b {
				t.Fatalf("game %d, move %d: above the budget %+v: %+v", game, move, b, look(l))
			}
		}
	}
}
