package modules

import (
	"testing"

	"trellis/api"
)

func TestCheck(t *testing.T) {
	for _, c := range []struct {
		module api.Module
		want   api.Fault
	}{
		{api.Module{Path: "a", Version: "v1.0.0"}, api.Fault{}},
		{api.Module{Path: "A", Version: "v1"}, api.Fault{Kind: api.Path, Path: "A"}},
		{api.Module{Path: "a", Version: "v1"}, api.Fault{Kind: api.Version, Version: "v1"}},
		{api.Module{}, api.Fault{Kind: api.Path}},
	} {
		var got api.Fault
		if fault := Check(c.module); fault != nil {
			got = *fault
		}
		if got != c.want {
			t.Errorf("P6: Check(%+v) = %+v, want %+v", c.module, got, c.want)
		}
	}
}

func TestCompareRising(t *testing.T) {
	rising := []api.Module{{Path: "a", Version: "v9.0.0"}, {Path: "a", Version: "v10.0.0-rc"}, {Path: "a", Version: "v10.0.0"}, {Path: "a-b", Version: "v1.0.0"}, {Path: "a/b", Version: "v0.0.0"}, {Path: "b", Version: "v0.0.0"}}
	for i, a := range rising {
		for k, b := range rising {
			if got := Compare(a, b); (got < 0) != (i < k) || (got > 0) != (i > k) {
				t.Errorf("P6: Compare(%v, %v) = %d", a, b, got)
			}
		}
	}
}

func TestFault(t *testing.T) {
	if got := *Fault(api.Missing, api.Module{Path: "a", Version: "v1.0.0"}); got != (api.Fault{Kind: api.Missing, Path: "a", Version: "v1.0.0"}) {
		t.Errorf("P6: the fault %+v", got)
	}
}
