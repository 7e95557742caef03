package machine

import (
	"math/rand"
	"testing"

	"holdfast/api"
)

// builder makes code of blocks that are all of one size: block 0 is main, then come what is called, then what threads do. Slots 1 and 3 hold addresses, the others numbers.
type builder struct {
	maker
	each, called, begun int
	block               int
}

func (b builder) start(block int) int { return block * b.each }

// address is a slot with an address; a thread has one of the thread that began it, too.
func (b builder) address() int {
	if b.block > b.called {
		return b.of(0, 0, 0, 1, 3)
	}
	return b.of(1, 1, 3)
}

func (b builder) plain() int { return b.of(2, 4, 5, 6) }

// near is an instruction of the same block.
func (b builder) near() int { return b.start(b.block) + b.Intn(b.each) }

func (b builder) some() int { return b.of(0, 1, 2, 3, -1, 7, most, least) }

// piece is a few instructions that belong together.
func (b builder) piece() listing {
	switch b.Intn(22) {
	case 0:
		return listing{set(b.plain(), b.some())}
	case 1:
		return listing{mov(b.plain(), b.plain())}
	case 2:
		return listing{adr(b.address(), b.Intn(9))}
	case 3, 4:
		return listing{ld(b.plain(), b.address(), b.Intn(3))}
	case 5, 6:
		return listing{st(b.address(), b.Intn(3), b.plain())}
	case 7, 8, 9:
		return listing{op(b.Intn(api.ONot+1), b.plain(), b.plain(), b.plain(), b.near())}
	case 10:
		return listing{jz(b.plain(), b.near())}
	case 11:
		return listing{set(4, 1+b.Intn(4)), alloc(3, 4), st(3, 0, 5)}
	case 12:
		return listing{set(4, 1+b.Intn(4)), alloc(3, 4), free(3), adr(3, 2)}
	case 13, 14:
		return b.calling()
	case 15:
		return listing{spawn(b.start(1+b.called+b.Intn(b.begun)), b.of(0, 1, 3))}
	case 16:
		if b.Intn(3) == 0 {
			return listing{panics(b.near())}
		}
		return listing{set(6, 1), st(b.address(), b.Intn(3), 6)}
	case 17:
		return listing{wait(b.address(), b.Intn(3))}
	case 18:
		return listing{set(6, 1), st(1, b.Intn(3), 6), wait(b.address(), b.Intn(3))}
	case 19:
		return listing{tells(b.plain())}
	}
	return listing{syncs()}
}

// calling is a call; what it is left by may be anywhere in this block.
func (b builder) calling() listing {
	to := b.start(1 + b.Intn(b.called))
	if b.Intn(2) == 0 {
		return listing{calls(to, 7+b.Intn(2), b.near())}
	}
	return listing{set(4, to), callsAt(4, 7+b.Intn(2), b.near())}
}

// last is how a block ends.
func (b builder) last() api.Ins {
	switch {
	case b.block > 0 && b.block <= b.called:
		return []api.Ins{ret(), ret(), resume()}[b.Intn(3)]
	case b.Intn(4) == 0:
		return jmp(b.near())
	case b.block == 0:
		return []api.Ins{gives(b.plain()), gives(b.plain()), fails()}[b.Intn(3)]
	}
	return stop()
}

// threads begin, some or none.
func (b builder) threads() listing {
	var code listing
	for range b.Intn(4) {
		code = code.then(spawn(b.start(1+b.called+b.Intn(b.begun)), b.of(1, 3)))
	}
	return code
}

// turns are picks for long runs.
func (b builder) turns() []int {
	var picks []int
	for range b.Intn(80) {
		picks = append(picks, b.of(0, 1, 2, 3, b.Intn(14)))
	}
	return picks
}

func (b builder) code() listing {
	var code listing
	for b.block = range 1 + b.called + b.begun {
		code = code.then(adr(1, b.Intn(9)), adr(3, b.Intn(9)))
		if b.block == 0 {
			code = code.then(b.threads()...)
		}
		end := b.start(b.block+1) - 1
		for len(code) < end {
			code = code.then(b.piece()...)
		}
		code = code[:end].then(b.last())
	}
	if b.Intn(b.wild) == 0 {
		code[b.Intn(len(code))] = b.ins()
	}
	return code
}

// P37: code of calls, threads and blocks of words, which mostly goes on for long, comes to what the oracle says, whatever the picks are.
func TestBuiltCode(t *testing.T) {
	r := rand.New(rand.NewSource(39))
	ends, steps, met := map[int]int{}, map[int]int{}, map[int]int{}
	for range 2000 {
		b := builder{each: 8 + r.Intn(12), called: 1 + r.Intn(2), begun: 1 + r.Intn(2)}
		b.maker = maker{r, b.each * (1 + b.called + b.begun), 3}
		code := b.code()
		for range 3 {
			o := held(t, code, r.Intn(3), 100+r.Intn(500), b.turns())
			if t.Failed() {
				return
			}
			ends[o.How]++
			steps[o.How] += o.Steps
			for _, n := range o.Order {
				met[n]++
			}
		}
	}
	t.Log(ends, steps, met)
	for _, how := range []int{api.Going, api.Done, api.Failed, api.Stuck, api.Aborted, api.Full, api.Broken} {
		if ends[how] < 50 || steps[how] < 10*ends[how] {
			t.Errorf("only %d runs that end by %d, with %d steps in all", ends[how], how, steps[how])
		}
	}
	for n := range api.MaxThreads {
		if met[n] < 40 {
			t.Errorf("thread %d has only met %d times", n, met[n])
		}
	}
}
