package holdfast

import (
	"fmt"
	"reflect"
	"strings"

	"holdfast/api"
)

var hows = []string{"Going", "Done", "Failed", "Stuck", "Aborted", "Wrong", "Full"}
var whats = []string{"", "Dead", "Hole", "Kin", "Race", "Form"}

// tell writes an outcome in short: how, what, the value, what was told, what is left.
func tell(o api.Outcome) string {
	text := hows[o.How] + whats[o.What]
	if o.Value != 0 {
		text += fmt.Sprint(" ", o.Value)
	}
	if len(o.Outs) > 0 {
		text += fmt.Sprint(" ", o.Outs)
	}
	if o.Left > 0 {
		text += fmt.Sprint(" left ", o.Left)
	}
	if o.Loose > 0 {
		text += fmt.Sprint(" loose ", o.Loose)
	}
	return text
}

// whole is the text of some items: those of module main, unless they are modules.
func whole(items string) string {
	if strings.HasPrefix(items, "mod ") {
		return items
	}
	return "mod main { " + items + " }"
}

// same says whether two outcomes are the same. Lists without anything in them may be nil.
func same(a, b api.Outcome) bool {
	a.Outs, b.Outs = append([]int{}, a.Outs...), append([]int{}, b.Outs...)
	a.Order, b.Order = append([]int{}, a.Order...), append([]int{}, b.Order...)
	return reflect.DeepEqual(a, b)
}
