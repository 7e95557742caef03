package reckon

import (
	"math"
	"math/big"
	"testing"

	"holdfast/api"
)

// ends are numbers at which something may go wrong.
func ends() []int {
	return []int{
		math.MinInt64, math.MinInt64 + 1, math.MinInt64/2 - 1, math.MinInt64 / 2, math.MinInt64/2 + 1,
		-3037000500, -3037000499, -1 << 32, -1<<32 + 1, -8, -7, -3, -2, -1, 0, 1, 2, 3, 7, 8,
		1<<31 - 1, 1 << 31, 3037000499, 3037000500, 1 << 32,
		math.MaxInt64/2 - 1, math.MaxInt64 / 2, math.MaxInt64/2 + 1, math.MaxInt64 - 1, math.MaxInt64,
	}
}

// great reckons with numbers of any size.
func great(op, a, b int) (*big.Int, bool) {
	x, y, z := big.NewInt(int64(a)), big.NewInt(int64(b)), new(big.Int)
	switch op {
	case api.OAdd:
		z.Add(x, y)
	case api.OSub:
		z.Sub(x, y)
	case api.OMul:
		z.Mul(x, y)
	case api.ODiv, api.ORem:
		if b == 0 {
			return z, false
		}
		rest := new(big.Int)
		z.QuoRem(x, y, rest)
		if op == api.ORem && z.IsInt64() {
			z = rest
		}
	default:
		order := x.Cmp(y)
		row := map[int][3]int64{api.OEq: {0, 1, 0}, api.ONe: {1, 0, 1}, api.OLt: {1, 0, 0}, api.OLe: {1, 1, 0}, api.OGt: {0, 0, 1}, api.OGe: {0, 1, 1}}[op]
		z.SetInt64(row[order+1])
	}
	return z, z.IsInt64()
}

// P29, P37: each operator, of each two numbers at the ends.
func TestTwo(t *testing.T) {
	for op := api.OAdd; op <= api.OGe; op++ {
		for _, a := range ends() {
			for _, b := range ends() {
				want, there := great(op, a, b)
				got, ok := Two(op, a, b)
				if ok != there || ok && int64(got) != want.Int64() {
					t.Errorf("operator %d of %d and %d: %d %v, not %v %v", op, a, b, got, ok, want, there)
				}
			}
		}
	}
}

// P29, P37: the negative of a number; of the least one there is none.
func TestNegative(t *testing.T) {
	for _, a := range ends() {
		want := new(big.Int).Neg(big.NewInt(int64(a)))
		got, ok := Negative(a)
		if ok != want.IsInt64() || ok && int64(got) != want.Int64() {
			t.Errorf("-(%d): %d %v, not %v", a, got, ok, want)
		}
	}
}
