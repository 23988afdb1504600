package trellis_test

import (
	"strings"
	"testing"

	"trellis/api"
	"trellis/trellis"
)

func TestCompareRising(t *testing.T) {
	rising := []string{
		"v0.0.0--", "v0.0.0", "v0.0.9", "v0.0.10", "v0.1.0", "v0.9.0-rc", "v0.9.0", "v0.10.0",
		"v1.0.0-0", "v1.0.0-0.0", "v1.0.0-9", "v1.0.0-9.z", "v1.0.0-10", "v1.0.0-99999999999999999999", "v1.0.0-100000000000000000000",
		"v1.0.0--", "v1.0.0--1", "v1.0.0-0a", "v1.0.0-10a", "v1.0.0-9a", "v1.0.0-Z", "v1.0.0-a",
		"v1.0.0-alpha", "v1.0.0-alpha.1", "v1.0.0-alpha.beta", "v1.0.0-alpha-1", "v1.0.0-alpha1", "v1.0.0-beta", "v1.0.0-beta.2", "v1.0.0-beta.11", "v1.0.0-rc.1",
		"v1.0.0", "v1.0.1", "v1.2.3", "v1.10.0",
		"v9223372036854775807.0.0", "v9223372036854775808.0.0", "v18446744073709551615.0.0", "v18446744073709551616.0.0",
		"v" + strings.Repeat("9", 34) + ".0.0", "v" + strings.Repeat("9", 35) + ".0.0",
	}
	for i, a := range rising {
		for k, b := range rising {
			want := 0
			if i < k {
				want = -1
			} else if i > k {
				want = 1
			}
			if got, err := trellis.Compare(a, b); got != want || err != nil {
				t.Errorf("P3: Compare(%s, %s) = %d, %v, want %d", a, b, got, err, want)
			}
		}
	}
}

func TestCompareNoVersion(t *testing.T) {
	const good = "v1.0.0"
	for _, bad := range []string{
		"", "v", "1.0.0", "V1.0.0", "vv1.0.0", "v1", "v1.0", "v1.0.0.0", "v1..0", ".v1.0.0", "v1.0.0.", "v01.0.0", "v1.00.0", "v1.0.00",
		"v1.0.0-", "v1.0.0-.", "v1.0.0-a.", "v1.0.0-a..b", "v1.0.0-01", "v1.0.0-a.01", "v1-0.0.0", "v1.0-0", "v+1.0.0", "v-1.0.0",
		"v1.0.0+a", "v1.0.0-a_b", "v1.0.0 ", "v1.0.0\n", "v1.0.0-\u0661", "v\u0661.0.0", "v1.0.0-\x00",
		"v1.0.0-" + strings.Repeat("a", api.MaxVersion-6),
	} {
		want := api.Fault{Kind: api.Version, Version: bad}
		for _, pair := range [][2]string{{bad, good}, {good, bad}, {bad, bad}, {bad, "another"}} {
			got, err := trellis.Compare(pair[0], pair[1])
			if got != 0 || faultOf(t, err) != want {
				t.Errorf("P3: Compare(%q, %q) = %d, %+v", pair[0], pair[1], got, faultOf(t, err))
			}
		}
	}
	if got, err := trellis.Compare(good, "v1.0.0-"+strings.Repeat("a", api.MaxVersion-7)); got != 1 || err != nil {
		t.Errorf("P3: a version of the greatest length: %d, %v", got, err)
	}
}
