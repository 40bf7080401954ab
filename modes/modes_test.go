package modes_test

import (
	"math"
	"testing"

	"jetty/api"
	"jetty/modes"
)

const (
	y = true
	n = false
)

var together = [7][7]bool{
	{y, y, y, y, y, y, y},
	{y, y, y, y, y, y, n},
	{y, y, y, n, n, n, n},
	{y, y, n, y, n, y, n},
	{y, y, n, n, n, n, n},
	{y, y, n, y, n, n, n},
	{y, n, n, n, n, n, n},
}

var both = [7][7]int{
	{api.NL, api.IS, api.IX, api.S, api.SIX, api.U, api.X},
	{api.IS, api.IS, api.IX, api.S, api.SIX, api.U, api.X},
	{api.IX, api.IX, api.IX, api.SIX, api.SIX, api.X, api.X},
	{api.S, api.S, api.SIX, api.S, api.SIX, api.U, api.X},
	{api.SIX, api.SIX, api.SIX, api.SIX, api.SIX, api.X, api.X},
	{api.U, api.U, api.X, api.U, api.X, api.U, api.X},
	{api.X, api.X, api.X, api.X, api.X, api.X, api.X},
}

var numbers = []int{math.MinInt, -8, -7, -2, -1, 0, 1, 2, 3, 4, 5, 6, 7, 8, 9, 64, 255, 256, 1 << 32, math.MaxInt}

func isMode(m int) bool { return m >= 0 && m <= 6 }

func TestTables(t *testing.T) { // P8.1
	for _, a := range numbers {
		for _, b := range numbers {
			wantC, wantJ := false, api.NL
			if isMode(a) && isMode(b) {
				wantC, wantJ = together[a][b], both[a][b]
			}
			if c := modes.Compatible(a, b); c != wantC {
				t.Fatalf("Compatible(%d, %d): %v", a, b, c)
			}
			if j := modes.Join(a, b); j != wantJ {
				t.Fatalf("Join(%d, %d): %d", a, b, j)
			}
			wantV := isMode(a) && isMode(b) && wantJ == a
			if v := modes.Covers(a, b); v != wantV {
				t.Fatalf("Covers(%d, %d): %v", a, b, v)
			}
		}
	}
}

func TestAbove(t *testing.T) { // P8.1
	for _, m := range numbers {
		want := api.NL
		switch m {
		case api.IS, api.S:
			want = api.IS
		case api.IX, api.SIX, api.U, api.X:
			want = api.IX
		}
		if a := modes.Above(m); a != want {
			t.Fatalf("Above(%d): %d", m, a)
		}
	}
}

func TestLaws(t *testing.T) { // P8.2
	for a := range 7 {
		for b := range 7 {
			j := modes.Join(a, b)
			if j != modes.Join(b, a) {
				t.Fatal(a, b)
			}
			for c := range 7 {
				if modes.Join(j, c) != modes.Join(a, modes.Join(b, c)) {
					t.Fatal(a, b, c)
				}
				if modes.Compatible(c, j) && !(modes.Compatible(c, a) && modes.Compatible(c, b)) {
					t.Fatal(a, b, c)
				}
				if modes.Compatible(j, c) && !(modes.Compatible(a, c) && modes.Compatible(b, c)) {
					t.Fatal(a, b, c)
				}
			}
		}
	}
}

func TestExamples(t *testing.T) { // P8.1
	if modes.Join(api.S, api.IX) != api.SIX || !modes.Compatible(api.U, api.S) || modes.Compatible(api.U, api.U) ||
		!modes.Covers(api.SIX, api.IX) || modes.Above(api.U) != api.IX || modes.Join(7, api.S) != api.NL {
		t.Fatal()
	}
}
