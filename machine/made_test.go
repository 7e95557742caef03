package machine

import (
	"math/rand"
	"testing"

	"holdfast/api"
)

// maker makes code up: mostly such as goes on for a while, with now and then something that is none.
type maker struct {
	*rand.Rand
	size int
	wild int // one of so many things is none
}

func (m maker) of(list ...int) int { return list[m.Intn(len(list))] }

func (m maker) slot() int {
	if m.Intn(m.wild) == 0 {
		return m.of(-1, -1, words4M-1, words4M-1, words4M, words4M-7, least, most)
	}
	return m.Intn(7)
}

// to is a number of an instruction.
func (m maker) to() int {
	if m.Intn(m.wild) == 0 {
		return m.of(-1, m.size, m.size+1, least, most)
	}
	return m.Intn(m.size)
}

// number is a number such as code needs: an address, a size, an instruction, an end.
func (m maker) number() int {
	if m.Intn(m.wild) == 0 {
		return m.of(least, most, least+1, most-1, words4M-1, -words4M, 0, -1)
	}
	switch m.Intn(6) {
	case 0:
		return m.Intn(3) * m.of(1, 1, -1)
	case 1:
		return m.to()
	case 2:
		return 1 + m.Intn(8)
	case 3, 4:
		return words4M*(1+m.Intn(2)) + m.Intn(8)
	}
	return words4M * (1 + m.Intn(4))
}

// behind is a C of MLd, MSt and MWait.
func (m maker) behind() int {
	if m.Intn(m.wild) == 0 {
		return m.of(least, most, -words4M, words4M, least+words4M)
	}
	return m.of(0, 0, 0, 1, 1, 2, -1)
}

// ins is an instruction, with something in each of its fields.
func (m maker) ins() api.Ins {
	in := api.Ins{Op: m.operation(), A: m.slot(), B: m.slot(), C: m.slot(), D: m.Intn(3), E: m.to()}
	switch in.Op {
	case api.MSet:
		in.B = m.number()
	case api.MLd, api.MSt, api.MWait:
		in.C = m.behind()
	case api.MOp:
		in.D = m.Intn(api.ONot + 1)
		if m.Intn(m.wild) == 0 {
			in.D = m.of(-1, 13, 14, least, most)
		}
	case api.MCall, api.MSpawn:
		in.A = m.to()
	case api.MStop:
		in.D = m.Intn(4)
	}
	return in
}

func (m maker) operation() int {
	if m.Intn(10*m.wild) == 0 {
		return m.of(-1, 20, least, most)
	}
	return m.of(
		api.MSet, api.MSet, api.MSet, api.MMov, api.MMov, api.MAdr, api.MAdr, api.MLd, api.MLd, api.MSt, api.MSt, api.MOp, api.MOp, api.MOp,
		api.MJmp, api.MJz, api.MJz, api.MCall, api.MCall, api.MCallAt, api.MRet, api.MRet, api.MResume, api.MPanic,
		api.MAlloc, api.MFree, api.MSpawn, api.MSpawn, api.MSync, api.MSync, api.MWait, api.MWait, api.MOut, api.MOut, api.MStop,
	)
}

// code begins with instructions by which slots come to have something useful, then comes what may.
func (m maker) code() listing {
	code := listing{adr(1, m.Intn(4)), set(2, 1+m.Intn(3)), alloc(3, 2), spawn(m.to(), m.of(1, 3)), set(4, m.to()), set(5, m.number())}
	for len(code) < m.size {
		code = append(code, m.ins())
	}
	return code
}

func (m maker) picks() []int {
	var picks []int
	for range m.Intn(12) {
		picks = append(picks, m.of(0, 1, 2, 3, m.Intn(14), -1, least, most))
	}
	return picks
}

// P37: made code comes to what the oracle says.
func TestMadeCode(t *testing.T) {
	r := rand.New(rand.NewSource(37))
	ends, longest, met := map[int]int{}, map[int]int{}, map[int]int{}
	for range 12000 {
		m := maker{r, 8 + r.Intn(30), 8 + r.Intn(200)}
		code, picks := m.code(), m.picks()
		o := held(t, code, m.number(), r.Intn(300), picks)
		if t.Failed() {
			return
		}
		ends[o.How]++
		longest[o.How] = max(longest[o.How], o.Steps)
		for _, n := range o.Order {
			met[n]++
		}
	}
	t.Log(ends, longest, met)
	for _, how := range []int{api.Going, api.Done, api.Failed, api.Stuck, api.Aborted, api.Full, api.NoRoom, api.Deep, api.Broken} {
		if ends[how] < 20 || longest[how] < 20 {
			t.Errorf("only %d runs that end by %d, with %d steps at most", ends[how], how, longest[how])
		}
	}
	for n := range api.MaxThreads {
		if met[n] < 10 {
			t.Errorf("thread %d has only met %d times", n, met[n])
		}
	}
}

// P37: code that is anything at all comes to what the oracle says.
func TestAnything(t *testing.T) {
	r := rand.New(rand.NewSource(38))
	m := maker{r, 5, 3}
	for range 4000 {
		var code listing
		for range r.Intn(6) {
			code = append(code, api.Ins{Op: r.Intn(22) - 1, A: m.number(), B: m.number(), C: m.number(), D: m.number(), E: m.number()})
		}
		held(t, code, m.number(), r.Intn(20)-3, m.picks())
	}
}
