package labels

import (
	"slices"
	"testing"

	"interregnum/api"
)

func TestNamesAreInTheSetsOfTheirLabels(t *testing.T) {
	gpu, zone := api.Label{Key: "gpu", Value: "1"}, api.Label{Key: "zone", Value: "2"}
	x := New()
	x.Put("a", []api.Label{gpu, zone, gpu})
	x.Put("b", []api.Label{zone})
	x.Put("c", nil)
	if len(x.sets) != 2 || len(x.sets[gpu]) != 1 || len(x.sets[zone]) != 2 {
		t.Errorf("sets: %v", x.sets)
	}
	// Names that are put where they do not belong tell that the sets are what is examined.
	x.sets[gpu]["d"] = struct{}{}
	x.labels["e"] = []api.Label{gpu}
	if l := x.With([]api.Label{gpu}); !slices.Equal(l, []string{"a", "d"}) {
		t.Errorf("With: %q", l)
	}
	if l := x.With([]api.Label{gpu, zone}); !slices.Equal(l, []string{"a"}) {
		t.Errorf("With both: %q", l)
	}
}

func TestNothingIsKeptOfWhatIsNoLongerThere(t *testing.T) {
	gpu, zone := api.Label{Key: "gpu", Value: "1"}, api.Label{Key: "zone", Value: "2"}
	x := New()
	x.Put("a", []api.Label{gpu, zone, gpu})
	x.Put("b", []api.Label{zone})
	x.Put("a", []api.Label{zone})
	if len(x.sets) != 1 || len(x.sets[zone]) != 2 {
		t.Errorf("sets behind Put: %v", x.sets)
	}
	x.With([]api.Label{gpu})
	x.Del("c")
	x.Del("a")
	if len(x.sets) != 1 || len(x.sets[zone]) != 1 || len(x.labels) != 1 {
		t.Errorf("behind Del of a: %v, %v", x.sets, x.labels)
	}
	x.Put("b", nil)
	if len(x.sets) != 0 || len(x.labels) != 1 {
		t.Errorf("behind Put without labels: %v, %v", x.sets, x.labels)
	}
	x.Del("b")
	if len(x.sets) != 0 || len(x.labels) != 0 {
		t.Errorf("behind Del of b: %v, %v", x.sets, x.labels)
	}
}
