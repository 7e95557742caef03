package borrow

import (
	"math/rand"
	"testing"
)

// Regions have what those have that they outlive, by however many others, also in rings: made ones are held against going on till nothing changes.
func TestRegions(t *testing.T) {
	for seed := range int64(400) {
		random := rand.New(rand.NewSource(seed))
		many, bound := 1+random.Intn(40), 1+random.Intn(100)
		r := &regions{bound: bound}
		want := make([]map[int]bool, many)
		for n := range want {
			want[n] = map[int]bool{}
			if r.add() != n {
				t.Fatal(n)
			}
		}
		for range random.Intn(2 * many) {
			n, has := random.Intn(many), random.Intn(bound)
			want[n][has] = true
			r.give(n, has)
		}
		var pairs []pair
		for range random.Intn(3 * many) {
			one := pair{random.Intn(many), random.Intn(many)}
			pairs = append(pairs, one)
			r.outlive(one.long, one.short)
		}
		r.solve()
		for grown := true; grown; {
			grown = false
			for _, one := range pairs {
				for has := range want[one.short] {
					grown = grown || !want[one.long][has]
					want[one.long][has] = true
				}
			}
		}
		for n := range want {
			for has := range bound {
				if r.has(n, has) != want[n][has] {
					t.Fatalf("seed %d: region %d, %d: %v", seed, n, has, r.has(n, has))
				}
			}
		}
	}
}

// A long chain of regions, and a long ring of them, take no room for each one on the way.
func TestLongRegions(t *testing.T) {
	const many = 200000
	for _, ring := range []bool{false, true} {
		r := &regions{bound: 2}
		r.addSome(many)
		for n := range many - 1 {
			r.outlive(n, n+1)
		}
		if ring {
			r.outlive(many-1, 0)
		}
		r.give(many-1, 1)
		r.give(0, 0)
		r.solve()
		if !r.has(0, 0) || !r.has(0, 1) || !r.has(many/2, 1) || r.has(many/2, 0) != ring || r.has(many-1, 0) != ring {
			t.Error(ring)
		}
	}
}
