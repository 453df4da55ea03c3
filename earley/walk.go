package earley

import "iter"

// postorder returns what is reached from some roots, each behind its kids; false, if something is reached from itself. It does not call itself, as a forest may be of any depth.
func postorder[K comparable](roots []K, kids func(K) iter.Seq[K]) ([]K, bool) {
	type visit struct {
		x      K
		isLeft bool // whether its kids were walked
	}
	var stack []visit
	for _, x := range roots {
		stack = append(stack, visit{x, false})
	}
	var order []K
	done := map[K]bool{} // false, as long as its kids are walked
	for len(stack) > 0 {
		v := stack[len(stack)-1]
		stack = stack[:len(stack)-1]
		if v.isLeft {
			done[v.x] = true
			order = append(order, v.x)
			continue
		}
		isDone, isKnown := done[v.x]
		if isDone {
			continue
		}
		if isKnown {
			return nil, false
		}
		done[v.x] = false
		stack = append(stack, visit{v.x, true})
		for k := range kids(v.x) {
			stack = append(stack, visit{k, false})
		}
	}
	return order, true
}
