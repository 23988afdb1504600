package needs

import (
	"slices"
	"sync"

	"trellis/api"
	"trellis/catalog"
	"trellis/manifests"
	"trellis/modules"
)

// Reader reads the releases of a registry for a root.
type Reader struct {
	view    view
	catalog catalog.Catalog
}

// Reading: what was read for a module that is needed.
type Reading struct {
	Module  api.Module  // as it is needed
	Release api.Release // as it was read, perhaps in its place; empty, if the module fails
	Fails   api.Kind    // Missing or Broken; 0: it does not fail
	Needs   []api.Module
}

// NewReader takes what a root says and the releases that it sees.
func NewReader(root manifests.Parts, known catalog.Catalog) Reader {
	return Reader{viewFrom(root), known}
}

// readAtOnce reads each module in a goroutine of its own. What comes is sorted, so that nothing hangs on which was quicker.
func (r Reader) readAtOnce(list []api.Module) []Reading {
	sent := make(chan Reading, len(list))
	var senders sync.WaitGroup
	for _, m := range list {
		senders.Add(1)
		go func() {
			defer senders.Done()
			sent <- r.read(m)
		}()
	}
	senders.Wait()
	close(sent)
	readings := make([]Reading, 0, len(list))
	for reading := range sent {
		readings = append(readings, reading)
	}
	slices.SortFunc(readings, compareReadings)
	return readings
}

func (r Reader) read(m api.Module) Reading {
	release, found := r.catalog.Find(r.view.inPlaceOf(m))
	if !found {
		return Reading{Module: m, Fails: api.Missing}
	}
	lines, err := manifests.Read(release.Manifest)
	parts := manifests.Gather(lines)
	if err != nil || parts.Module.Path != release.Path {
		return Reading{Module: m, Fails: api.Broken}
	}
	return Reading{Module: m, Release: release, Needs: r.view.needs(parts.Requirements)}
}

func compareReadings(a, b Reading) int { return modules.Compare(a.Module, b.Module) }
