// Package ledger is layer 2: how much was used, and how much may be; see shared/doc/02-ledger.md.
package ledger

import (
	"sync"
	"sync/atomic"

	"tintype/api"
)

// The reasons of refusals.
const (
	Sides = iota + 1
	Bytes
	Work
)

// Refusal is what was refused: a reason, and what was asked for.
type Refusal struct{ Reason, Asked int }

// Ledger counts what is used of a budget, and keeps the first refusal.
type Ledger struct {
	budget api.Budget
	bytes  atomic.Int64
	peak   atomic.Int64
	steps  atomic.Int64
	once   sync.Once
	first  Refusal
	broken atomic.Bool
}

// New is a ledger of a budget, of which nothing is used.
func New(b api.Budget) *Ledger {
	return &Ledger{budget: api.Budget{
		MaxWidth:  max(b.MaxWidth, 0),
		MaxHeight: max(b.MaxHeight, 0),
		MaxBytes:  max(b.MaxBytes, 0),
		MaxWork:   max(b.MaxWork, 0),
	}}
}

// Budget is that of New, with 0 in place of numbers below 0.
func (l *Ledger) Budget() api.Budget { return l.budget }

// Sides tells whether an image may have such sides.
func (l *Ledger) Sides(width, height int) bool {
	if l.Broken() {
		return false
	}
	if width < 1 || width > l.budget.MaxWidth {
		l.refuse(Sides, width)
		return false
	}
	if height < 1 || height > l.budget.MaxHeight {
		l.refuse(Sides, height)
		return false
	}
	return true
}

// Take keeps n bytes more, if they are let.
func (l *Ledger) Take(n int) bool {
	if l.Broken() {
		return false
	}
	kept, ok := grow(&l.bytes, n, l.budget.MaxBytes)
	if !ok {
		l.refuse(Bytes, n)
		return false
	}
	raise(&l.peak, kept)
	return true
}

// Give keeps n bytes less, if so many are kept, also behind a refusal.
func (l *Ledger) Give(n int) bool {
	if n < 0 {
		return false
	}
	for {
		kept := l.bytes.Load()
		if int64(n) > kept {
			return false
		}
		if l.bytes.CompareAndSwap(kept, kept-int64(n)) {
			return true
		}
	}
}

// Work does n steps more, if they are let.
func (l *Ledger) Work(n int) bool {
	if l.Broken() {
		return false
	}
	if _, ok := grow(&l.steps, n, l.budget.MaxWork); !ok {
		l.refuse(Work, n)
		return false
	}
	return true
}

// Bytes is how many are kept now.
func (l *Ledger) Bytes() int { return int(l.bytes.Load()) }

// Peak is the most bytes that were kept at once.
func (l *Ledger) Peak() int { return int(l.peak.Load()) }

// Steps is how many were done.
func (l *Ledger) Steps() int { return int(l.steps.Load()) }

// Broken tells whether something was refused.
func (l *Ledger) Broken() bool { return l.broken.Load() }

// First is the first refusal, if there was one.
func (l *Ledger) First() (Refusal, bool) {
	if !l.Broken() {
		return Refusal{}, false
	}
	return l.first, true
}

// refuse keeps the first refusal: it is written ahead of the truth by which others look at it.
func (l *Ledger) refuse(reason, asked int) {
	l.once.Do(func() {
		l.first = Refusal{Reason: reason, Asked: asked}
		l.broken.Store(true)
	})
}

// grow adds n to a count, and tells the count then; false, and nothing: n is below 0, or it would be above most.
func grow(count *atomic.Int64, n, most int) (int64, bool) {
	for {
		old := count.Load()
		// What is left is asked in place of the sum, which could run over.
		if n < 0 || int64(n) > int64(most)-old {
			return 0, false
		}
		if count.CompareAndSwap(old, old+int64(n)) {
			return old + int64(n), true
		}
	}
}

// raise makes a count v, if it is less.
func raise(count *atomic.Int64, v int64) {
	for {
		old := count.Load()
		if v <= old || count.CompareAndSwap(old, v) {
			return
		}
	}
}
