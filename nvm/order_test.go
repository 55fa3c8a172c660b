package nvm_test

import (
	"fmt"
	"slices"
	"testing"

	"reeve/api"
	"reeve/nvm"
)

// model is what the chapter says, told word by word: row's out and sent are lists, what lasts stands apart.
type model struct {
	newest, lasts []uint64
	out, sent     map[int]bool
	down          bool
	calls         int
	keep          []int
	count         int64
}

func modelOf(l []uint64) *model {
	return &model{newest: slices.Clone(l), lasts: slices.Clone(l), out: map[int]bool{}, sent: map[int]bool{}}
}

// settle makes a row last, of these words.
func (m *model) settle(r int, words []uint64) {
	l := slices.Clone(words[8*r : 8*r+8])
	copy(m.lasts[8*r:], l)
	copy(m.newest[8*r:], l)
	delete(m.out, r)
	delete(m.sent, r)
}

func (m *model) crash(keep []int) {
	if m.down {
		return
	}
	for r := range len(m.newest) / 8 {
		if m.out[r] && slices.Contains(keep, r) {
			m.settle(r, m.newest)
		} else if m.out[r] {
			m.settle(r, m.lasts)
		}
	}
	m.down, m.calls = true, 0
}

// burns tells whether the fuse takes the place of a call that would be OK, and counts that else.
func (m *model) burns() bool {
	if m.calls == 1 {
		m.crash(m.keep)
		return true
	}
	m.calls = max(m.calls-1, 0)
	m.count++
	return false
}

// step is one call, of a memory and of its model; it tells what each answered.
type step struct {
	name  string
	real  func(m *nvm.Mem) (uint64, api.Errno)
	model func(m *model) (uint64, api.Errno)
}

// guarded answers what stands against a call of place at, of n, or lets it be done.
func guarded(at int, n func(m *model) int, counts bool, do func(m *model) uint64) func(m *model) (uint64, api.Errno) {
	return func(m *model) (uint64, api.Errno) {
		switch {
		case m.down:
			return 0, api.EDOWN
		case at < 0 || at >= n(m):
			return 0, api.EARG
		case counts && m.burns():
			return 0, api.EDOWN
		}
		return do(m), api.OK
	}
}

func words(m *model) int { return len(m.newest) }
func rows(m *model) int  { return len(m.newest) / 8 }
func one(m *model) int   { return 1 }

func number(b bool) uint64 {
	if b {
		return 1
	}
	return 0
}

func load(at int) step {
	return step{fmt.Sprintf("Load(%d)", at),
		func(m *nvm.Mem) (uint64, api.Errno) { return m.Load(at) },
		guarded(at, words, false, func(m *model) uint64 { return m.newest[at] })}
}

func putInto(m *model, at int, v uint64) {
	m.newest[at], m.out[at/8] = v, true
	delete(m.sent, at/8)
}

func store(at int, v uint64) step {
	return step{fmt.Sprintf("Store(%d, %d)", at, v),
		func(m *nvm.Mem) (uint64, api.Errno) { return 0, m.Store(at, v) },
		guarded(at, words, true, func(m *model) uint64 { putInto(m, at, v); return 0 })}
}

func swap(at int, old, v uint64) step {
	return step{fmt.Sprintf("Swap(%d, %d, %d)", at, old, v),
		func(m *nvm.Mem) (uint64, api.Errno) {
			ok, e := m.Swap(at, old, v)
			return number(ok), e
		},
		func(m *model) (uint64, api.Errno) {
			is := at >= 0 && at < len(m.newest) && m.newest[at] == old
			return guarded(at, words, is, func(m *model) uint64 {
				if is {
					putInto(m, at, v)
				}
				return number(is)
			})(m)
		}}
}

func flush(r int) step {
	return step{fmt.Sprintf("Flush(%d)", r),
		func(m *nvm.Mem) (uint64, api.Errno) { return 0, m.Flush(r) },
		guarded(r, rows, true, func(m *model) uint64 {
			if m.out[r] {
				m.sent[r] = true
			}
			return 0
		})}
}

func fence() step {
	return step{"Fence()",
		func(m *nvm.Mem) (uint64, api.Errno) { return 0, m.Fence() },
		guarded(0, one, true, func(m *model) uint64 {
			for r := range rows(m) {
				if m.sent[r] {
					m.settle(r, m.newest)
				}
			}
			return 0
		})}
}

func evict(r int) step {
	return step{fmt.Sprintf("Evict(%d)", r),
		func(m *nvm.Mem) (uint64, api.Errno) { return 0, m.Evict(r) },
		guarded(r, rows, false, func(m *model) uint64 {
			if m.out[r] {
				m.settle(r, m.newest)
			}
			return 0
		})}
}

func crash(keep ...int) step {
	return step{fmt.Sprintf("Crash(%v)", keep),
		func(m *nvm.Mem) (uint64, api.Errno) { m.Crash(keep...); return 0, api.OK },
		func(m *model) (uint64, api.Errno) { m.crash(keep); return 0, api.OK }}
}

func on() step {
	return step{"On()",
		func(m *nvm.Mem) (uint64, api.Errno) { m.On(); return 0, api.OK },
		func(m *model) (uint64, api.Errno) { m.down = false; return 0, api.OK }}
}

func layFuse(calls int, keep ...int) step {
	return step{fmt.Sprintf("Fuse(%d, %v)", calls, keep),
		func(m *nvm.Mem) (uint64, api.Errno) { m.Fuse(calls, keep...); return 0, api.OK },
		func(m *model) (uint64, api.Errno) {
			if !m.down {
				m.calls, m.keep = max(calls, 0), keep
			}
			return 0, api.OK
		}}
}

// differs does one step of both, and tells how they differ behind it ("" if they do not).
func differs(s step, real *nvm.Mem, m *model) string {
	got, e := s.real(real)
	want, we := s.model(m)
	if got != want || e != we {
		return fmt.Sprintf("%d, %d, want %d, %d", got, e, want, we)
	}
	if !slices.Equal(real.Words(), m.newest) {
		return fmt.Sprintf("Words %v, want %v", real.Words(), m.newest)
	}
	var outs []int
	for r := range rows(m) {
		if m.out[r] {
			outs = append(outs, r)
		}
	}
	if !slices.Equal(real.Out(), outs) {
		return fmt.Sprintf("Out %v, want %v", real.Out(), outs)
	}
	if real.Off() != m.down || real.Count() != m.count || real.Rows() != rows(m) {
		return fmt.Sprintf("Off %v, Count %d, Rows %d, want %v, %d, %d", real.Off(), real.Count(), real.Rows(), m.down, m.count, rows(m))
	}
	return ""
}

// follow does steps on a new memory and its model, up to the first that they differ by.
func follow(t *testing.T, first []uint64, steps []step) {
	t.Helper()
	real, e := nvm.From(first...)
	if e != api.OK {
		t.Fatalf("P3.1: From: %d", e)
	}
	m := modelOf(first)
	for i, s := range steps {
		if d := differs(s, real, m); d != "" {
			var names []string
			for _, s := range steps[:i+1] {
				names = append(names, s.name)
			}
			t.Fatalf("P3.1: %v: %s", names, d)
		}
	}
}

// All orders of four of these calls, on two rows.
func TestEveryShortOrder(t *testing.T) {
	all := []step{
		store(0, 1), store(15, 2), store(16, 3), swap(0, 1, 4), swap(15, 115, 5), load(0),
		flush(0), flush(1), flush(2), fence(), evict(0), evict(-1),
		crash(), crash(1, 1, 7), on(), layFuse(1, 0), layFuse(2, 1, 9), layFuse(0),
	}
	for _, a := range all {
		for _, b := range all {
			for _, c := range all {
				for _, d := range all {
					follow(t, rising(16, 100), []step{a, b, c, d})
				}
			}
		}
	}
}

// Long orders, picked by a rule of their own, on three rows: what stands there is small, so that Swaps often find it.
func TestLongOrders(t *testing.T) {
	for seed := range uint64(400) {
		x := seed*2862933555777941757 + 3037000493
		pick := func(n int) int {
			x = x*6364136223846793005 + 1442695040888963407
			return int(x>>33) % n
		}
		var steps []step
		for range 120 {
			at, r, v := pick(26)-1, pick(5)-1, uint64(pick(3))
			choices := []step{
				store(at, v), store(at, v), store(at, v), swap(at, v, uint64(pick(3))), swap(at, v, v), load(at),
				flush(r), flush(r), flush(pick(3)), fence(), fence(), evict(r), on(), on(),
				crash(pick(4), pick(4)), layFuse(pick(9)-1, pick(4), pick(4)),
			}
			steps = append(steps, choices[pick(len(choices))])
		}
		follow(t, make([]uint64, 24), steps)
	}
}
