package run

// loose counts the things of the heap that are left out of account, when again and again one is left out that none of the others leads to.
func (w *world) loose() int {
	led := map[int]int{}
	for _, x := range w.heap {
		for _, y := range owned(x.holds, nil) {
			led[y.key]++
		}
	}
	var free []*thing
	for key, x := range w.heap {
		if led[key] == 0 {
			free = append(free, x)
		}
	}
	count := 0
	for ; len(free) > 0; count++ {
		x := free[len(free)-1]
		free = free[:len(free)-1]
		for _, y := range owned(x.holds, nil) {
			led[y.key]--
			if led[y.key] == 0 {
				free = append(free, y)
			}
		}
	}
	return count
}

// owned appends the things that a value and its parts own.
func owned(v value, out []*thing) []*thing {
	switch v := v.(type) {
	case owner:
		return append(out, v.leads)
	case closure:
		return append(out, v.leads)
	}
	for _, part := range partsOf(v) {
		if part.owns() {
			out = owned(part, out)
		}
	}
	return out
}
