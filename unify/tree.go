package unify

import (
	"iter"
	"slices"

	"apodixis/api"
)

// leaves yields the labels of the leaves of a tree, in their order. It does not call itself, as a tree may be of any depth.
func leaves(t api.Tree) iter.Seq[string] {
	return func(yield func(string) bool) {
		stack := []api.Tree{t}
		for len(stack) > 0 {
			last := len(stack) - 1
			t := stack[last]
			stack = stack[:last]
			if len(t.Kids) == 0 && !yield(t.Label) {
				return
			}
			for _, k := range slices.Backward(t.Kids) {
				stack = append(stack, k)
			}
		}
	}
}

// change has the trees that labels of leaves become.
type change map[string]api.Tree

func changeOf(l []Sub) change {
	c := change{}
	for _, s := range l {
		if _, ok := c[s.Label]; !ok {
			c[s.Label] = s.Tree
		}
	}
	return c
}

// tooLarge is what leaves a tree with more than api.MaxNodes nodes.
type tooLarge struct{}

// measure returns the error of the size of a tree under a change.
func (c change) measure(t api.Tree) (e api.Errno) {
	defer func() {
		if recover() != nil {
			e = api.ErrLarge
		}
	}()
	nodes, deepest := 0, 0
	var walk func(c change, t api.Tree, depth int)
	walk = func(c change, t api.Tree, depth int) {
		if x, ok := c[t.Label]; ok && len(t.Kids) == 0 {
			walk(nil, x, depth)
			return
		}
		nodes++
		if nodes > api.MaxNodes {
			panic(tooLarge{})
		}
		deepest = max(deepest, depth)
		for _, k := range t.Kids {
			walk(c, k, depth+1)
		}
	}
	walk(c, t, 1)
	if deepest > api.MaxDepth {
		return api.ErrDepth
	}
	return api.OK
}

// apply returns a tree under a change, as new memory.
func (c change) apply(t api.Tree) api.Tree {
	if x, ok := c[t.Label]; ok && len(t.Kids) == 0 {
		return change{}.apply(x)
	}
	result := api.Tree{Label: t.Label}
	for _, k := range t.Kids {
		result.Kids = append(result.Kids, c.apply(k))
	}
	return result
}

// Apply returns a tree in which labels without kids are replaced at once.
func Apply(t api.Tree, l []Sub) (api.Tree, api.Errno) {
	c := changeOf(l)
	if e := c.measure(t); e != api.OK {
		return api.Tree{}, e
	}
	return c.apply(t), api.OK
}
