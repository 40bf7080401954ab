package script_test

import (
	"strconv"
	"strings"
	"testing"

	"jetty/api"
	"jetty/script"
)

// lines: a script of lines parted by " / ", and its answers likewise.
func lines(t *testing.T, text, want string) {
	t.Helper()
	got := script.Run(strings.ReplaceAll(text, " / ", "\n"))
	if want != "" {
		want = strings.ReplaceAll(want, " / ", "\n") + "\n"
	}
	if got != want {
		t.Fatalf("%s:\n%snot\n%s", text, got, want)
	}
}

const (
	first = "volume 16 256 / 0 begin / 0 make 2 / 0 put 1 61 62 / 0 commit / "
	fine  = "ok / ok / ok 1 / ok / ok / "
)

func TestExamples(t *testing.T) { // P23.1
	lines(t, first+"all", fine+"ok 1:2 61=62")
	lines(t, "0 begin / volume 3 256 / volume 16 / fuel x", "error 230 / error 1 / error 230 / error 230")
	lines(t, first+"0 begin / 0 get 1 61 / 1 begin / 1 cut 1 61 / 0 commit / 1 step", fine+"ok / ok 62 / ok / wait / ok / ok")
	lines(t, first+"2 begin / 2 put 1 63 - / crash 111 / all", fine+"ok / ok / ok / ok 1:2 61=62")
}

func TestNoAnswer(t *testing.T) { // P23.1
	lines(t, "", "")
	lines(t, " /  / #  / # volume 16 256 /    #all / #", "")
	if got := script.Run("\n\n  \n#x\nall\n"); got != "error 230\n" {
		t.Fatal(got)
	}
	if got := script.Run("   volume   16 256  \n\nall"); got != "ok\nok\n" {
		t.Fatal(got)
	}
	for _, s := range []string{"\tall", "all\t", "all\r", "al", "ALL", "al l", "all #", "\x00", "\xff\xfe", "é"} {
		if got := script.Run("volume 16 256\n" + s); got != "ok\nerror 230\n" {
			t.Fatalf("%q: %q", s, got)
		}
	}
}

func TestLimits(t *testing.T) { // P23.1
	if got := script.Run(strings.Repeat("#", api.MaxText)); got != "" {
		t.Fatal(got)
	}
	for _, s := range []string{strings.Repeat("#", api.MaxText+1), strings.Repeat("\n", api.MaxLines), strings.Repeat("\n", api.MaxText), "all" + strings.Repeat("\n", api.MaxLines)} {
		if got := script.Run(s); got != "error 2\n" {
			t.Fatal(got)
		}
	}
	if got := script.Run("all" + strings.Repeat("\n", api.MaxLines-1)); got != "error 230\n" {
		t.Fatal(got)
	}
	if got := script.Run(strings.Repeat("all\n", api.MaxLines-1) + "all"); got != strings.Repeat("error 230\n", api.MaxLines) {
		t.Fatal(len(got))
	}
	if got := script.Run(strings.Repeat("all\n", api.MaxLines)); got != "error 2\n" {
		t.Fatal(len(got))
	}
}

func TestWords(t *testing.T) { // P23.1: what is refused, with a desk and without
	bad := []string{
		"volume", "volume 16", "volume 16 256 1", "volume x 256", "volume 16 -1", "volume 0000016 256", "volume 16 2560000", "volume 1a 256", "volume +1 256",
		"crash", "crash 0 1", "crash 2", "crash 01x", "crash -", "fuel", "fuel 1 2", "fuel -1", "fuel 1234567", "checkpoint 1", "all 1", "step", "begin", "x",
		"0", "8 begin", "-1 begin", "00 begin", "a begin", "0 x", "0 begin 1", "0 step 1", "0 commit 1", "0 abort x", "0 save 1", "0 back", "0 back 1 2", "0 back x",
		"0 make", "0 make 1 2", "0 make x", "0 drop", "0 drop 1 2", "0 insert 1", "0 insert x 61", "0 insert 1 6", "0 insert 1 6g", "0 insert 1 6A", "0 insert 1 61 62", "0 insert 1 --", "0 insert 1 0x",
		"0 read 1", "0 read 1 x", "0 read 1 2 3", "0 update 1 2", "0 update 1 x 61", "0 update 1 2 -a", "0 delete 1", "0 delete 1 2 3", "0 list", "0 list 1 2", "0 list x",
		"0 put 1 61", "0 put 1 61 62 63", "0 put 1 6 62", "0 put 1 61 6", "0 put x 61 62", "0 get 1", "0 get 1 61 62", "0 get 1 zz", "0 set 1 61", "0 set 1 61 62 63", "0 cut 1", "0 cut 1 61 62",
		"0 range 1 61", "0 range 1 61 x", "0 range 1 61 1 1", "0 new 1", "0 new 1 2 3", "0 len 1", "0 len 1 2 3", "0 piece 1 2 3", "0 piece 1 2 3 4 5", "0 piece 1 2 3 x",
		"0 write 1 2 3", "0 write 1 2 3 6", "0 write 1 2 3 61 62", "0 truncate 1 2", "0 truncate 1 2 3 4", "0 destroy 1", "0 destroy 1 2 3", "0 BEGIN", "volumes 16 256", "0 steps",
	}
	for _, s := range bad {
		lines(t, s, "error 230")
		lines(t, first+s+" / all", fine+"error 230 / ok 1:2 61=62")
	}
	for _, s := range []string{"crash 0", "fuel 5", "checkpoint", "all", "0 step", "0 begin", "7 commit", "0 put 1 61 62"} { // right, but there is no desk
		lines(t, s, "error 230")
	}
	lines(t, "volume 000016 0256 / 0 begin / 0 make 000002 / 0 put 01 - -", "ok / ok / ok 1 / error 1")
}

func TestVolumeInPlace(t *testing.T) { // P23.1
	lines(t, first+"volume 3 256 / all / volume 16 127 / all / volume 1025 256 / volume 16 4097 / all / volume 8 128 / all / 0 begin / 0 get 1 61",
		fine+"error 1 / ok 1:2 61=62 / error 1 / ok 1:2 61=62 / error 1 / error 1 / ok 1:2 61=62 / ok / ok / ok / error 190")
	lines(t, "volume 1024 4096 / all / volume 4 128 / all", "ok / ok / ok / ok")
	lines(t, "volume 16 256 / 0 begin / 0 make 1 / volume 16 256 / 0 commit / 0 begin / 0 make 3 / 0 commit / all", "ok / ok / ok 1 / ok / error 191 / ok / ok 1 / ok / ok 1:3")
}

func TestEachOperation(t *testing.T) { // P23.1
	lines(t, "volume 60 1000 / 3 begin / 3 make 1 / 3 make 2 / 3 make 3 / 3 make 4 / 3 insert 1 616263 / 3 insert 1 - / 3 read 1 24 / 3 read 1 16 / 3 read 1 17 / 3 update 1 17 ff00 / 3 read 1 17 / 3 delete 1 16 / 3 list 1 / 3 read 1 16",
		"ok / ok / ok 1 / ok 2 / ok 3 / error 1 / ok 16 / ok 17 / error 150 / ok 616263 / ok - / ok / ok ff00 / ok / ok 17=ff00 / error 150")
	lines(t, "volume 60 1000 / 7 begin / 7 make 2 / 7 put 1 62 - / 7 put 1 61 7a / 7 put 1 61 00 / 7 get 1 61 / 7 get 1 62 / 7 get 1 63 / 7 set 1 62 01 / 7 set 1 63 01 / 7 range 1 - 9 / 7 range 1 6161 9 / 7 range 1 - 0 / 7 range 1 - 1 / 7 cut 1 61 / 7 range 1 - 64 / 7 range 1 - 65 / 7 list 1",
		"ok / ok / ok 1 / ok / ok / error 160 / ok 7a / ok - / error 150 / ok / error 150 / ok 61=7a 62=01 / ok 62=01 / ok / ok 61=7a / ok / ok 62=01 / error 1 / error 190")
	lines(t, "volume 60 1000 / 0 begin / 0 make 3 / 0 new 1 5 / 0 new 1 5 / 0 len 1 5 / 0 write 1 5 0 30313233343536373839 / 0 write 1 5 8 4142434445464748494a4b4c / 0 len 1 5 / 0 piece 1 5 7 4 / 0 piece 1 5 20 0 / 0 piece 1 5 20 1 / 0 truncate 1 5 3 / 0 piece 1 5 0 3 / 0 len 1 6 / 0 new 1 1000 / 0 commit / all / 0 begin / 0 destroy 1 5 / 0 len 1 5 / 0 commit / all",
		"ok / ok / ok 1 / ok / error 160 / ok 0 / ok / ok / ok 20 / ok 37414243 / ok - / error 1 / ok / ok 303132 / error 150 / error 1 / ok / ok 1:3 5=303132 / ok / ok / error 150 / ok / ok 1:3")
	lines(t, first+"1 begin / 1 save / 1 put 1 63 - / 1 save / 1 cut 1 61 / 1 range 1 - 9 / 1 back 0 / 1 range 1 - 9 / 1 drop 1 / all / 1 abort / all / 1 begin / 1 drop 1 / 1 commit / all",
		fine+"ok / ok 0 / ok / "+saved(t)+" / ok / ok 63=- / ok / ok 61=62 / ok / ok / ok / ok 1:2 61=62 / ok / ok / ok / ok")
	lines(t, "volume 30 500 / 0 begin / 0 make 1 / 0 insert 1 61 / 0 make 3 / 0 new 2 0 / 0 commit / all", "ok / ok / ok 1 / ok 16 / ok 2 / ok / ok / ok 1:1 16=61 2:3 0=-")
}

// saved: what a savepoint behind one change answers: the record's place is the log's business.
func saved(t *testing.T) string {
	t.Helper()
	l := strings.Split(script.Run(strings.ReplaceAll(first+"1 begin / 1 put 1 63 - / 1 save", " / ", "\n")), "\n")
	s := l[len(l)-2]
	if !strings.HasPrefix(s, "ok ") || s == "ok 0" {
		t.Fatal(s)
	}
	return s
}

func TestSessions(t *testing.T) { // P23.1
	lines(t, first+"0 begin / 0 begin / 1 commit / 1 step / 0 step / 7 begin / 0 set 1 61 63 / 7 get 1 61 / 7 get 1 61 / 7 begin / 7 step / 0 commit / 7 step / 7 step / 7 abort",
		fine+"ok / error 211 / error 191 / error 211 / error 211 / ok / ok / wait / error 211 / error 211 / wait / ok / ok 63 / error 211 / ok")
	// A step is told by what was begun while nothing was under way.
	lines(t, first+"0 begin / 0 set 1 61 63 / 1 begin / 1 range 1 - 5 / 1 len 1 5 / 0 commit / 1 step", fine+"ok / ok / ok / wait / error 211 / ok / ok 61=63")
	lines(t, first+"0 begin / 1 begin / 0 set 1 61 63 / 1 put 1 6161 - / 0 put 1 62 - / 1 set 1 61 64 / 0 commit / 1 step / 1 commit / all",
		fine+"ok / ok / ok / ok / wait / error 210 / error 211 / error 211 / error 191 / ok 1:2 61=63")
}

func TestMostItems(t *testing.T) { // P23.1: sixty-four items, and then the whole store
	text, want := "volume 60 2000 / 0 begin / 0 make 2 / ", "ok / ok / ok 1 / "
	for i := range 66 {
		text += "0 put 1 " + hex(i) + " - / "
		want += "ok / "
	}
	all := ""
	for i := range 63 {
		all += " " + hex(i) + "=-"
	}
	text += "0 commit / 0 begin / 0 range 1 - 63 / 0 get 1 3f / 1 begin / 1 put 1 ff - / 1 abort / 0 get 1 40 / 1 begin / 1 put 1 ff - / 0 commit / 1 step"
	lines(t, text, want+"ok / ok / ok"+all+" / ok - / ok / ok / ok / ok - / ok / wait / ok / ok")
}

func hex(i int) string {
	return string([]byte{"0123456789abcdef"[i/16], "0123456789abcdef"[i%16]})
}

func TestCrash(t *testing.T) { // P23.1
	lines(t, first+"fuel 0 / checkpoint / checkpoint / all / 0 begin / crash 0 / all / 0 begin", fine+"ok / error 20 / error 20 / error 20 / error 20 / ok / ok 1:2 61=62 / ok")
	lines(t, first+"0 begin / crash 1 / 0 step / 0 commit / 0 begin / 0 cut 1 61 / 0 commit / crash 000000 / all", fine+"ok / ok / error 211 / error 191 / ok / ok / ok / ok / ok 1:2")
	lines(t, first+"0 begin / 0 cut 1 61 / 1 begin / 1 get 1 61 / crash 0 / 1 step / 1 begin / 1 get 1 61", fine+"ok / ok / ok / wait / ok / error 211 / ok / ok 62")
	kept := 0
	for fuel := range 20 { // a commit under way: it is there, or not; one that was answered is there
		some := ""
		for _, keep := range []string{"0", "1", "10", strings.Repeat("1", 99)} {
			got := script.Run(strings.ReplaceAll(first+"0 begin / 0 set 1 61 ff / fuel "+strconv.Itoa(fuel)+" / 0 commit / crash "+keep+" / all", " / ", "\n"))
			l := strings.Split(got, "\n")
			commit, all := l[8], l[10]
			if l[9] != "ok" || commit != "ok" && commit != "error 20" || all != "ok 1:2 61=ff" && (commit == "ok" || all != "ok 1:2 61=62") {
				t.Fatal(fuel, keep, got)
			}
			if fuel == 0 && commit == "ok" || fuel == 19 && commit != "ok" {
				t.Fatal(fuel, commit)
			}
			some += keep[:1] + all[len(all)-2:] + " "
		}
		if some == "062 162 162 1ff " { // all writes were under way: each bit counts
			kept++
		}
	}
	if kept == 0 {
		t.Fatal("what crash keeps plays no part")
	}
	lines(t, first+"checkpoint / crash "+strings.Repeat("01", 3000)+" / all / fuel 999999 / all", fine+"ok / ok / ok 1:2 61=62 / ok / ok 1:2 61=62")
}

// piece: some line, often a right one.
func piece(next func(int) int) string {
	digits := func() string {
		return []string{"0", "1", "2", "3", "5", "16", "17", "64", "300", "999999", "1000000", "x", "-"}[next(13)]
	}
	bytes := func() string {
		return []string{"-", "61", "62", "6161", "6162636465666768", "616263646566676869", "zz", "6", strings.Repeat("61", 20), strings.Repeat("62", 33), strings.Repeat("00", 64)}[next(11)]
	}
	w := []string{[]string{"0", "1", "2", "7", "8"}[next(5)]}
	switch next(14) {
	case 0:
		return "crash " + []string{"0", "1", "0101", "2", strings.Repeat("1", 50)}[next(5)]
	case 1:
		return "fuel " + digits()
	case 2:
		return []string{"checkpoint", "all", "# nothing", "", "all all", "volume 16 200", "volume 9 128"}[next(7)]
	case 3:
		return w[0] + " step"
	case 4, 5:
		w = append(w, []string{"begin", "commit", "abort", "save"}[next(4)])
	case 6:
		w = append(w, []string{"make", "drop", "back", "list"}[next(4)], []string{"1", "2", "3"}[next(3)])
	default:
		name := strings.Fields("insert read update delete put get set cut range new len piece write truncate destroy")[next(15)]
		shapes := map[string][]string{"insert": {"b"}, "read": {"n"}, "update": {"n", "b"}, "delete": {"n"}, "put": {"b", "b"}, "get": {"b"}, "set": {"b", "b"}, "cut": {"b"}, "range": {"b", "n"},
			"new": {"n"}, "len": {"n"}, "piece": {"n", "n", "n"}, "write": {"n", "n", "b"}, "truncate": {"n", "n"}, "destroy": {"n"}}
		w = append(w, name, []string{"1", "2", "3"}[next(3)])
		for _, s := range shapes[name] {
			if s == "n" {
				w = append(w, digits())
			} else {
				w = append(w, bytes())
			}
		}
	}
	return strings.Join(w, " ")
}

func random(seed uint64) func(int) int {
	return func(n int) int {
		seed = seed*6364136223846793005 + 1442695040888963407
		return int(seed>>33) % n
	}
}

func TestGoesOn(t *testing.T) { // P23.2, and rule 8: the same calls on new objects answer the same
	for round := range 60 {
		next := random(uint64(round))
		l := []string{"volume 30 300", "0 begin", "0 make 1", "0 make 2", "0 make 3", "0 commit"}
		for range 150 {
			l = append(l, piece(next))
		}
		all := script.Run(strings.Join(l, "\n"))
		if again := script.Run(strings.Join(l, "\n")); again != all {
			t.Fatal("another answer to the same script")
		}
		for _, n := range []int{0, 1, 6, 40, 100, 155} {
			if part := script.Run(strings.Join(l[:n], "\n")); !strings.HasPrefix(all, part) {
				t.Fatalf("%d lines: %s\nnot the beginning of\n%s", n, part, all)
			}
		}
		var few []string
		for _, x := range l {
			if w := strings.Fields(x); len(w) > 0 && w[0][0] != '#' {
				few = append(few, x)
			}
		}
		if s := script.Run(strings.Join(few, "\n")); s != all {
			t.Fatal("lines without an answer play a part")
		}
		if n := strings.Count(all, "\n"); n != len(few) || strings.Count(all, "error 20\n") == n {
			t.Fatal(n, len(few))
		}
		for _, x := range strings.Split(strings.TrimSuffix(all, "\n"), "\n") {
			if x != "wait" && x != "ok" && !strings.HasPrefix(x, "ok ") && !strings.HasPrefix(x, "error ") || strings.HasSuffix(x, " ") {
				t.Fatalf("%q", x)
			}
		}
	}
}

func TestAnyBytes(t *testing.T) { // P23.1: every script ends
	next := random(5)
	alphabet := "0123456789 \n abcdefghijklmnopqrstuvwxyz-#\x00\xff"
	for range 3000 {
		b := make([]byte, next(300))
		for i := range b {
			b[i] = alphabet[next(len(alphabet))]
		}
		script.Run("volume 4 128\n0 begin\n0 make 2\n" + string(b))
	}
}
