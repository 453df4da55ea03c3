package unify

import (
	"strconv"
	"strings"

	"apodixis/api"
)

// maxNumber is the greatest number of a work variable.
const maxNumber = 1000000000

// Work returns the label of a work variable.
func Work(sort string, n int) (string, api.Errno) {
	if sort == "" {
		return "", api.ErrForm
	}
	if n < 0 || n > maxNumber {
		return "", api.ErrRange
	}
	return "&" + sort + "." + strconv.Itoa(n), api.OK
}

// IsWork returns the sort and the number of a work variable.
func IsWork(label string) (sort string, n int, ok bool) {
	rest, ok := strings.CutPrefix(label, "&")
	point := strings.LastIndex(rest, ".")
	if !ok || point < 1 {
		return "", 0, false
	}
	n, err := strconv.Atoi(rest[point+1:])
	if err != nil || n < 0 || n > maxNumber || strconv.Itoa(n) != rest[point+1:] {
		return "", 0, false
	}
	return rest[:point], n, true
}

// Works returns the work variables of a tree, in the order of their first occurrence.
func Works(t api.Tree) []string {
	found := map[string]bool{}
	var l []string
	for label := range leaves(t) {
		if _, _, ok := IsWork(label); ok && !found[label] {
			found[label] = true
			l = append(l, label)
		}
	}
	return l
}
