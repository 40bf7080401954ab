package ledger_test

import (
	"math"
	"testing"

	"jetty/api"
	"jetty/ledger"
)

const most = 1 << 40

func take(t *testing.T, l *ledger.Ledger, x int, c, free complex128, want bool, err api.Errno) {
	t.Helper()
	if ok, e := l.Take(x, c, free); ok != want || e != err {
		t.Fatalf("Take(%d, %v, %v): %v, %d", x, c, free, ok, e)
	}
}

func sum(t *testing.T, l *ledger.Ledger, want complex128) {
	t.Helper()
	if s := l.Sum(); s != want {
		t.Fatal(s, want)
	}
}

func own(t *testing.T, l *ledger.Ledger, x int, want complex128) {
	t.Helper()
	if s := l.Own(x); s != want {
		t.Fatal(x, s, want)
	}
}

func TestExample(t *testing.T) { // P11.1
	l := ledger.New()
	sum(t, l, 0)
	take(t, l, 1, 3+1i, 10+1i, true, api.OK)
	take(t, l, 2, 8, 10+1i, false, api.OK)
	own(t, l, 2, 0)
	take(t, l, 2, 7, 10+1i, true, api.OK)
	sum(t, l, 10+1i)
	if e := l.Give(1, 4); e != api.ErrArg {
		t.Fatal(e)
	}
	if e := l.Give(1, 3); e != api.OK {
		t.Fatal(e)
	}
	own(t, l, 1, 1i)
	take(t, l, 1, 0.5, 9, false, api.ErrArg)
	l.Drop(2)
	sum(t, l, 1i)
	own(t, l, 2, 0)
	l.Drop(2)
	l.Drop(77)
	sum(t, l, 1i)
}

func TestAmounts(t *testing.T) { // P11.1
	minus := math.Copysign(0, -1)
	bad := []float64{-1, 0.5, -0.5, 1e-300, math.NaN(), math.Inf(1), math.Inf(-1), most + 1, most + 0.5, math.MaxFloat64, -most, 3.999}
	for _, b := range bad {
		for _, c := range []complex128{complex(b, 0), complex(0, b), complex(b, b), complex(1, b), complex(b, 1)} {
			l := ledger.New()
			take(t, l, 1, 5+5i, most+most*1i, true, api.OK)
			take(t, l, 1, c, most+most*1i, false, api.ErrArg)
			take(t, l, 1, 1, c, false, api.ErrArg)
			take(t, l, 1, 0, c, false, api.ErrArg)
			if e := l.Give(1, c); e != api.ErrArg {
				t.Fatal(c, e)
			}
			own(t, l, 1, 5+5i)
			sum(t, l, 5+5i)
		}
	}
	l := ledger.New()
	take(t, l, 1, complex(minus, minus), complex(minus, minus), true, api.OK)
	own(t, l, 1, 0)
	take(t, l, 1, most+most*1i, most+most*1i, true, api.OK)
	take(t, l, 2, complex(minus, 0), most+most*1i, true, api.OK)
	take(t, l, 2, 1, most+most*1i, false, api.OK)
	take(t, l, 2, 1i, most+most*1i, false, api.OK)
	if e := l.Give(1, complex(minus, minus)); e != api.OK {
		t.Fatal(e)
	}
	sum(t, l, most+most*1i)
	if e := l.Give(1, most+most*1i); e != api.OK {
		t.Fatal(e)
	}
	sum(t, l, 0)
	if math.Signbit(real(l.Sum())) || math.Signbit(imag(l.Own(1))) {
		t.Fatal("a zero below zero")
	}
}

func TestFits(t *testing.T) { // P11.1: each part by itself
	l := ledger.New()
	take(t, l, 1, 10+2i, 10+2i, true, api.OK)
	take(t, l, 2, 1, 10+100i, false, api.OK)
	take(t, l, 2, 1i, 100+2i, false, api.OK)
	take(t, l, 2, 1+1i, 11+2i, false, api.OK)
	take(t, l, 2, 1+1i, 10+3i, false, api.OK)
	take(t, l, 2, 1+1i, 11+3i, true, api.OK)
	take(t, l, 2, 0, 10+3i, false, api.OK) // Sum alone doesn't fit
	take(t, l, 2, 0, 11+3i, true, api.OK)
	for _, c := range []complex128{11, 3i, 11 + 1i, 1 + 3i} {
		if e := l.Give(1, c); e != api.ErrArg {
			t.Fatal(c, e)
		}
	}
	if e := l.Give(3, 1); e != api.ErrArg {
		t.Fatal(e)
	}
	if e := l.Give(3, 0); e != api.OK {
		t.Fatal(e)
	}
	own(t, l, 1, 10+2i)
	own(t, l, 2, 1+1i)
}

func TestNil(t *testing.T) { // P11.1
	var l *ledger.Ledger
	take(t, l, 1, 1, 9, false, api.ErrArg)
	if e := l.Give(1, 0); e != api.ErrArg {
		t.Fatal(e)
	}
	l.Drop(1)
	sum(t, l, 0)
	own(t, l, 1, 0)
}

func TestEveryOrder(t *testing.T) { // P11.1, P11.2
	seed := uint64(13)
	next := func(n int) int {
		seed = seed*6364136223846793005 + 1442695040888963407
		return int(seed>>33) % n
	}
	xcts := []int{0, 1, 2, -1, math.MinInt, math.MaxInt}
	l := ledger.New()
	bytes, pages := map[int]int{}, map[int]int{}
	taken := 0
	for k := range 30000 {
		x, b, p := xcts[next(len(xcts))], next(60), next(6)
		c := complex(float64(b), float64(p))
		sumB, sumP := 0, 0
		for _, y := range xcts {
			sumB, sumP = sumB+bytes[y], sumP+pages[y]
		}
		switch next(6) {
		case 0, 1, 2:
			freeB, freeP := next(400), next(40)
			ok := b+sumB <= freeB && p+sumP <= freeP
			take(t, l, x, c, complex(float64(freeB), float64(freeP)), ok, api.OK)
			if ok {
				bytes[x], pages[x] = bytes[x]+b, pages[x]+p
				taken++
				if s := l.Sum(); real(s) > float64(freeB) || imag(s) > float64(freeP) {
					t.Fatal(k, s, "is more than was free")
				}
			}
		case 3, 4:
			ok := b <= bytes[x] && p <= pages[x]
			if e := l.Give(x, c); (e == api.OK) != ok || !ok && e != api.ErrArg {
				t.Fatal(k, e)
			}
			if ok {
				bytes[x], pages[x] = bytes[x]-b, pages[x]-p
			}
		case 5:
			if next(4) == 0 {
				l.Drop(x)
				bytes[x], pages[x] = 0, 0
			}
		}
		var all complex128
		for _, y := range xcts {
			own(t, l, y, complex(float64(bytes[y]), float64(pages[y])))
			all += l.Own(y)
		}
		sum(t, l, all)
	}
	if taken < 1000 {
		t.Fatal(taken)
	}
}
