package listing

import (
	"slices"
	"testing"

	"trellis/api"
)

func TestInOrder(t *testing.T) {
	whole := []api.File{{Name: "b", Data: "1"}, {Name: "a/b", Data: "2"}, {Name: "B", Data: "3"}, {Name: "a", Data: "4"}, {Name: "b", Data: "5"}, {Name: "\xff", Data: "6"}, {Name: "", Data: "7"}, {Name: "a", Data: ""}, {Name: "behind", Data: "8"}}
	before := slices.Clone(whole)
	want := []api.File{{Name: "", Data: "7"}, {Name: "B", Data: "3"}, {Name: "a", Data: "4"}, {Name: "a/b", Data: "2"}, {Name: "b", Data: "1"}, {Name: "\xff", Data: "6"}}
	if got := InOrder(whole[:8]); !slices.Equal(got, want) {
		t.Errorf("P5: in order: %q", got)
	}
	if !slices.Equal(whole, before) {
		t.Errorf("P2: the list is now %q", whole)
	}
	if got := InOrder(nil); len(got) != 0 {
		t.Errorf("P5: nothing, in order: %q", got)
	}
}
