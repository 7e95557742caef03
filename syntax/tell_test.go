package syntax

import (
	"strconv"
	"strings"

	"holdfast/api"
)

// kindNames are the names of the kinds of nodes that Parse makes, in the order of their numbers.
const kindNames = "Prog Mod Use Data Variant Field Trait Impl Fn Gens GLife GType Param YInt YBool YTuple YRef YFn YPath YLife EInt EBool ETuple EPath ECall EField EDeref ERef EUn EBin EAnd EOr EAssign EIf EMatch Arm EWhile ELoop EBreak ENext EReturn EPanic EBlock ELet EMake EInit EClosure ECapture ESpawn PAny PBind PInt PBool PTuple PCase"

// tell writes a tree in short: kind@place, counted from a place, N and M if they are not 0, Name if there is one, then the kids.
func tell(n api.Node, from int) string {
	out := strings.Fields(kindNames)[n.Kind] + "@" + strconv.Itoa(n.At-from)
	if n.N != 0 {
		out += " N" + strconv.Itoa(n.N)
	}
	if n.M != 0 {
		out += " M" + strconv.Itoa(n.M)
	}
	if n.Name != "" {
		out += " " + n.Name
	}
	if len(n.Kids) == 0 {
		return out
	}
	var kids []string
	for _, kid := range n.Kids {
		kids = append(kids, tell(kid, from))
	}
	return out + " [" + strings.Join(kids, ", ") + "]"
}
