package notary

import (
	"slices"
	"testing"

	"tollhouse/api"
)

// P10.1: hashes rise byte by byte, from the first byte to the last one. No secrets are known whose hashes part as late as that, so the book is filled by hand.
func TestHashesRise(t *testing.T) {
	var want []api.Hash
	rising := []byte{0, 1, 127, 128, 255}
	for at := 31; at >= 0; at-- {
		for _, b := range rising[1:] {
			h := api.Hash{}
			h[at] = b
			want = append(want, h)
		}
	}
	want = append([]api.Hash{{}}, want...)
	for _, b := range rising[1:] {
		h := api.Hash{0: 255, 31: b}
		want = append(want, h)
	}
	for range 20 {
		n := New()
		for i, h := range want {
			n.book[h] = entry{height: uint64(i)}
		}
		if got := n.Hashes(); !slices.Equal(got, want) {
			t.Fatalf("P10.1: %x; want %x", got, want)
		}
	}
}
