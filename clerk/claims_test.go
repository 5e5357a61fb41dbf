package clerk_test

import (
	"maps"
	"slices"
	"testing"

	"tollhouse/api"
	"tollhouse/clerk"
	"tollhouse/court"
)

// knows are the secrets of some numbers, by their hashes.
func knows(l ...uint64) map[api.Hash]api.Secret {
	m := map[api.Hash]api.Secret{}
	for _, n := range l {
		m[hashOf(n)] = secretOf(n)
	}
	return m
}

func secretsOf(l ...uint64) []api.Secret {
	var s []api.Secret
	for _, n := range l {
		s = append(s, secretOf(n))
	}
	return s
}

// wantClaims: these are the secrets of some numbers that should be told.
func wantClaims(t *testing.T, name string, r clerk.Rules, c *court.Court, s api.State, side api.Side, secrets map[api.Hash]api.Secret, want ...uint64) {
	t.Helper()
	before, conds := maps.Clone(secrets), slices.Clone(s.Conds)
	if got := r.Claims(c, s, side, secrets); !slices.Equal(got, secretsOf(want...)) {
		t.Errorf("P20.2: %s: Claims: %v; want %v", name, got, secretsOf(want...))
	}
	if !maps.Equal(secrets, before) || !slices.Equal(s.Conds, conds) {
		t.Errorf("R3: %s: Claims changed what was handed in", name)
	}
}

// quick are rules with the least Margin.
var quick = clerk.Rules{Margin: 1, Longest: 50}

// P20.2: Claims of payments of the other side's alone, in their order, whose secrets are known.
func TestClaims(t *testing.T) {
	c, _ := scene(t)
	s := stateOf(cond(12, 0, 5, 20), cond(11, 1, 5, 20), cond(10, 0, 5, 20), cond(9, 1, 5, 20), cond(8, 0, 5, 20))
	all := knows(8, 9, 10, 11, 12, 13, 99)
	wantClaims(t, "to Right", quick, c, s, 1, all, 12, 10, 8)
	wantClaims(t, "to Left", quick, c, s, 0, all, 11, 9)
	wantClaims(t, "to nobody", quick, c, s, 2, all, 12, 11, 10, 9, 8)
	wantClaims(t, "some known", quick, c, s, 1, knows(8, 9, 11), 8)
	wantClaims(t, "others known", quick, c, s, 1, knows(9, 11, 1, 7))
	wantClaims(t, "nothing known", quick, c, s, 1, nil)
	wantClaims(t, "nothing known", quick, c, s, 1, knows())
	for _, s := range []api.State{{}, stateOf(), {Conds: []api.Cond{}}} {
		wantClaims(t, "nothing pending", quick, c, s, 1, all)
	}
}

// P20.2: one secret for two payments is told once, and stands where the first of these stands.
func TestClaimsOnce(t *testing.T) {
	c, _ := scene(t)
	by := func(id, secret uint64, by api.Side, expiry uint64) api.Cond {
		return api.Cond{Id: id, By: by, Amount: 1, Hash: hashOf(secret), Expiry: expiry}
	}
	all := knows(8, 9)
	wantClaims(t, "two of one", quick, c, stateOf(by(1, 8, 0, 20), by(2, 8, 0, 30)), 1, all, 8)
	wantClaims(t, "two of one, apart", quick, c, stateOf(by(1, 8, 0, 20), by(2, 9, 0, 20), by(3, 8, 0, 30), by(4, 9, 0, 9)), 1, all, 8, 9)
	wantClaims(t, "all of one", quick, c, stateOf(by(1, 9, 0, 20), by(2, 9, 0, 21), by(3, 9, 0, 22), by(4, 9, 0, 23)), 1, all, 9)
	// The first one is too late, or the own side's: then the second one counts, where it stands.
	wantClaims(t, "the first one late", quick, c, stateOf(by(1, 8, 0, 10), by(2, 9, 0, 20), by(3, 8, 0, 30)), 1, all, 9, 8)
	wantClaims(t, "the first one the own side's", quick, c, stateOf(by(1, 8, 1, 20), by(2, 9, 0, 20), by(3, 8, 0, 30)), 1, all, 9, 8)
	// Each secret once, also where it stands by two hashes.
	twice := knows(8, 9)
	twice[hashOf(7)] = secretOf(8)
	wantClaims(t, "one secret by two hashes", quick, c, stateOf(by(1, 7, 0, 20), by(2, 8, 0, 20), by(3, 9, 0, 20)), 1, twice, 8, 9)
}

// P20.2: what is known is sought by the payment's Hash, whatever stands there.
func TestClaimsByHash(t *testing.T) {
	c, _ := scene(t)
	wrong := map[api.Hash]api.Secret{hashOf(8): secretOf(9), {}: secretOf(5), hashOf(1): {}}
	wantClaims(t, "another secret", quick, c, stateOf(cond(8, 0, 5, 20), cond(9, 0, 5, 20)), 1, wrong, 9)
	wantClaims(t, "by the empty hash", quick, c, stateOf(api.Cond{Expiry: 20}), 1, wrong, 5)
	// The zero secret is one, too.
	s := stateOf(api.Cond{Hash: hashOf(7), Expiry: 20})
	if got := quick.Claims(c, s, 1, map[api.Hash]api.Secret{hashOf(7): {}}); !slices.Equal(got, []api.Secret{{}}) {
		t.Errorf("P20.2: Claims of the zero secret: %v", got)
	}
	// That another secret was told makes no difference; that of the payment's Hash does.
	told := map[api.Hash]api.Secret{hashOf(8): secretOf(1), hashOf(1): secretOf(8)}
	wantClaims(t, "told, by another hash", quick, c, stateOf(cond(8, 0, 5, 20), cond(1, 0, 5, 20)), 1, told, 1)
}

// P20.2: a secret that was told already isn't told again, be it in time or too late; nor that of a payment that is void.
func TestClaimsVerdicts(t *testing.T) {
	c, told := scene(t)
	for n := range uint64(6) {
		for _, expiry := range expiries {
			_, is := told[n]
			var want []uint64
			if !is && expiry > now {
				want = []uint64{n}
			}
			wantClaims(t, "each verdict", quick, c, stateOf(cond(n, 0, 5, expiry)), 1, knows(0, 1, 2, 3, 4, 5), want...)
		}
	}
	// With no Margin, which no rules have, only payments that are open count, still.
	none := clerk.Rules{}
	wantClaims(t, "no Margin", none, c, stateOf(cond(0, 0, 5, 9), cond(1, 0, 5, 10), cond(4, 0, 5, 10), cond(5, 0, 5, 10), cond(2, 0, 5, 6)), 1, knows(0, 1, 2, 3, 4, 5), 5)
	// One that was told goes out of the claims, and the others stay.
	s := stateOf(cond(8, 0, 5, 20), cond(9, 0, 5, 20))
	wantClaims(t, "ahead of telling", quick, c, s, 1, knows(8, 9), 8, 9)
	tell(t, c, now+1, 8)
	wantClaims(t, "behind telling", quick, c, s, 1, knows(8, 9), 9)
}

// P20.2: the Expiry is Margin above the height, or more.
func TestClaimsMargin(t *testing.T) {
	c, _ := scene(t)
	for _, margin := range []uint64{0, 1, 2, 5, 100, 101, 1 << 63, top - now - 1, top - now, top - now + 1, top} {
		for _, expiry := range []uint64{0, 1, now - 1, now, now + 1, now + margin - 1, now + margin, now + margin + 1, 1 << 63, top - 1, top} {
			var want []uint64
			if expiry >= now && expiry-now >= margin {
				want = []uint64{8}
			}
			wantClaims(t, "each Margin", clerk.Rules{Margin: margin}, c, stateOf(cond(8, 0, 5, expiry)), 1, knows(8), want...)
		}
	}
	// Written out: the Margin is 3.
	s := stateOf(cond(20, 0, 1, 12), cond(21, 0, 1, 13), cond(22, 0, 1, 14), cond(23, 0, 1, 10), cond(24, 0, 1, 9), cond(25, 0, 1, 0), cond(26, 0, 1, top))
	all := knows(20, 21, 22, 23, 24, 25, 26)
	wantClaims(t, "the Margin 3", plain, c, s, 1, all, 21, 22, 26)
	upTo(t, c, now+1)
	wantClaims(t, "the Margin 3, a block on", plain, c, s, 1, all, 22, 26)
	upTo(t, c, now+2)
	wantClaims(t, "the Margin 3, two blocks on", plain, c, s, 1, all, 26)
}

// P20.2: sides and payments of no side are held against each other as they are.
func TestClaimsFarSides(t *testing.T) {
	c, _ := scene(t)
	for _, far := range farSides {
		s := stateOf(cond(8, 0, 5, 20), cond(9, far, 5, 20), cond(10, 1, 5, 20))
		wantClaims(t, "no such side", quick, c, s, far, knows(8, 9, 10), 8, 10)
		wantClaims(t, "a payment by no side", quick, c, s, 1, knows(8, 9, 10), 8, 9)
	}
}

// P20.2: without a court nothing was told, at the height 0.
func TestClaimsNoCourt(t *testing.T) {
	wantClaims(t, "no court", plain, nil, stateOf(cond(1, 0, 5, 2), cond(2, 0, 5, 3), cond(3, 0, 5, 4), cond(4, 1, 5, 4)), 1, knows(1, 2, 3, 4), 2, 3)
}
