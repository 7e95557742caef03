package owns

import (
	"holdfast/api"
	"holdfast/ways"
)

// code is the code of a function, and the paths that it tells apart.
type code struct {
	*ways.Ways
	paths *paths
}

func newCode(p api.Program, n int) *code {
	return &code{ways.Of(p, n), pathsOf(p.Fns[n])}
}
