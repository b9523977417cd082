package change_test

import (
	"math"
	"math/rand"
	"testing"

	"arbac/api"
	"arbac/change"
)

// P25.6
func TestText(t *testing.T) {
	for _, x := range examples {
		if got := change.Text(x.change); got != x.text {
			t.Errorf("Text of %.100v: %q, not %q", x.change, got, x.text)
		}
	}
}

// P25.6: nothing for a change that Check refuses, and for no other one.
func TestNoText(t *testing.T) {
	r := rand.New(rand.NewSource(258))
	for k := range 256 {
		if c := (C{Kind: change.Kind(k)}); (change.Text(c) == "") == (k >= 1 && k <= 18) {
			t.Errorf("Text of kind %d: %q", k, change.Text(c))
		}
	}
	for range 5000 {
		c := valid(r)
		if change.Text(c) == "" {
			t.Errorf("no Text of %.200v", c)
		}
		c = set(c, pick(r, append([]string{"Name", "Text", "Action", "Path"}, numbers...)...), pick(r, -1, 1000001, math.MinInt, math.MaxInt))
		if change.Check(c) != api.OK && change.Text(c) != "" {
			t.Errorf("Text of %.200v: %.100q", c, change.Text(c))
		}
	}
}
