package gen1

import (
	"slices"
	"strings"

	"interregnum/api"
)

// find returns the index of the element of l with a name, or where it would be, and whether there is one. The names must be ascending.
func find[E any](l []E, name string, nameOf func(E) string) (int, bool) {
	return slices.BinarySearchFunc(l, name, func(e E, name string) int {
		return strings.Compare(nameOf(e), name)
	})
}

func machineName(m api.Machine) string {
	return m.Node.Name
}

func queueName(q api.Queue) string {
	return q.Name
}

// remove returns l without the element at an index, in the memory of l.
func remove[E any](l []E, at int) []E {
	return slices.Delete(l, at, at+1)
}
