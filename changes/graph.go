package changes

import (
	"trellis/api"
	"trellis/needs"
)

// graph: modules by places in a list, and to which others the edges of each one lead.
type graph struct {
	places map[api.Module]int
	edges  [][]int
}

// graphOf links each module to those that it needs, which were read with it.
func graphOf(readings []needs.Reading) graph {
	g := graph{make(map[api.Module]int, len(readings)), make([][]int, len(readings))}
	for place, reading := range readings {
		g.places[reading.Module] = place
	}
	for place, reading := range readings {
		for _, need := range reading.Needs {
			g.edges[place] = append(g.edges[place], g.places[need])
		}
	}
	return g
}

func (g graph) reversed() graph {
	edges := make([][]int, len(g.edges))
	for from, list := range g.edges {
		for _, to := range list {
			edges[to] = append(edges[to], from)
		}
	}
	return graph{g.places, edges}
}

// spread puts the mark on a module and on all that is reached from it, but not beyond what has one: so all spreads over the same marks go over each edge only once. A module that is not in the graph reaches nothing.
func (g graph) spread(from api.Module, mark int, marks []int) {
	start, found := g.places[from]
	if !found {
		return
	}
	todo := []int{start}
	for len(todo) > 0 {
		place := todo[len(todo)-1]
		todo = todo[:len(todo)-1]
		if marks[place] == 0 {
			marks[place] = mark
			todo = append(todo, g.edges[place]...)
		}
	}
}

// leading counts the modules from which one is needed that is bad, the bad ones too.
func leading(readings []needs.Reading, isBad func(needs.Reading) bool) map[api.Module]int {
	back := graphOf(readings).reversed()
	marks := make([]int, len(readings))
	for _, reading := range readings {
		if isBad(reading) {
			back.spread(reading.Module, 1, marks)
		}
	}
	found := map[api.Module]int{}
	for place, reading := range readings {
		if marks[place] != 0 {
			found[reading.Module]++
		}
	}
	return found
}
