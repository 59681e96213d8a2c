package shell_test

import (
	"fmt"
	"math/rand"
	"slices"
	"strings"
	"testing"

	"purser/shell"
)

// laid is a script that lays an organization (1), its team (2), two projects (3, 4), each with 100, and plans of two groups.
const laid = `org 1
team 2 1
project 3 2
project 4 2
topup 1 100
topup 2 100
topup 3 100
topup 4 100
flat 1 1 2
volume 2 10 3 4 1
`

// oks answers so many lines of what has nothing to tell.
func oks(n int) string { return strings.Repeat("ok\n", n) }

// then holds that lines behind what is laid tell this.
func then(t *testing.T, lines, want string) {
	t.Helper()
	tells(t, laid+lines, oks(10)+want)
	agrees(t, laid+lines)
}

func TestP31_1_Example(t *testing.T) {
	tells(t, "org 1\ntopup 1 5\nbalance 1\n", "ok\nok\navailable 5 held 0 used 0\n")
}

func TestP31_1_Nothing(t *testing.T) {
	for _, script := range []string{"", "\n", "\n\n\n", "#", "#\n", "# org 1\n#org 1\n##\n\n#tree", "tree", "tree\n\n#\ntree"} {
		tells(t, script, "")
	}
}

func TestP31_1_NodesAndFunds(t *testing.T) {
	then(t, "", "")
	then(t, "balance 1\nbalance 2\nbalance 3\nbalance 9\n", strings.Repeat("available 100 held 0 used 0\n", 3)+"error 7\n")
	then(t, "team 5 1\nmove 3 5\nlimit 5 70\ntopup 5 3\nshut 4\ntree\n", oks(5)+`org 1: available 100 held 0 used 0
  team 2: available 100 held 0 used 0
    project 4 closed: available 100 held 0 used 0
  team 5: available 3 held 0 used 0 limit 70
    project 3: available 100 held 0 used 0
`)
	then(t, "limit 3 0\nlimit 1 999999999\norg 32\ntree\n", oks(3)+`org 1: available 100 held 0 used 0 limit 999999999
  team 2: available 100 held 0 used 0
    project 3: available 100 held 0 used 0 limit 0
    project 4: available 100 held 0 used 0
org 32: available 0 held 0 used 0
`)
}

// What is priced is told by what it costs.
func TestP31_1_Prices(t *testing.T) {
	then(t, "event 1 3 1 1\nevent 2 3 1 10\n", "cost 2\ncost 20\n")
	// Of group 2 a block has 10 units: up to 4 blocks each is paid for with 3, behind that all of them with 1.
	then(t, "event 1 3 2 1\nevent 2 3 2 30\nevent 3 3 2 11\n", "cost 3\ncost 9\ncost 2\n")
	then(t, "event 1 3 2 41\n", "cost 5\n")
	then(t, "flat 2 7 5\nevent 1 3 2 14\nevent 2 3 2 15\n", "ok\ncost 10\ncost 15\n")
	then(t, "volume 1 1 9 2 0\nevent 1 3 1 2\nevent 2 3 1 1\n", "ok\ncost 18\ncost 0\n")
	then(t, "flat 8 1 0\nevent 1 4 8 999999999\n", "ok\ncost 0\n")
}

func TestP31_1_Sessions(t *testing.T) {
	then(t, "open 5 3 1 10\nbalance 3\nmore 5 1 1 4 5\nbalance 2\nclose 5 2 1 5\nbalance 1\n", `granted 10 of 1 for 20 until 20
available 80 held 20 used 0
granted 5 of 1 for 10 until 20, cost 8
available 82 held 10 used 8
cost 10
available 82 held 0 used 18
`)
	then(t, "open 5 3 1 60\nmore 5 1 1 0 50\nmore 5 2 1 50 51\nmore 5 3 1 0 0\n", `granted 50 of 1 for 100 final until 20
granted 50 of 1 for 100 until 20, cost 0
granted 0 of 1 for 0 final until 20, cost 100
granted nothing until 20, cost 0
`)
	then(t, "tick\ntick\nopen 999999999 4 2 40\ntick\nmore 999999999 1 2 35 7\nclose 999999999 2 2 0\n", `closed
closed
granted 40 of 2 for 12 until 22
closed
granted 7 of 2 for 3 until 23, cost 12
cost 0
`)
	// Each request of a session is done once.
	then(t, "open 5 3 1 10\nopen 5 3 1 10\nmore 5 1 1 4 5\nmore 5 1 1 4 5\nclose 5 2 1 5\nclose 5 2 1 5\nopen 5 3 1 10\nbalance 3\n", `granted 10 of 1 for 20 until 20
granted 10 of 1 for 20 until 20
granted 5 of 1 for 10 until 20, cost 8
granted 5 of 1 for 10 until 20, cost 8
cost 10
cost 10
granted 10 of 1 for 20 until 20
available 82 held 0 used 18
`)
}

func TestP31_1_EventsAndRefunds(t *testing.T) {
	then(t, "event 1 3 1 3\nevent 1 3 1 3\nrefund 2 1\nrefund 2 1\nbalance 3\nevent 3 4 2 50\nrefund 4 3\nday 4\n", "cost 6\ncost 6\ncost 6\ncost 6\navailable 100 held 0 used 0\ncost 5\ncost 5\nquarter 0 of 5 blocks, strength 25\n")
	then(t, "event 0 3 1 3\nrefund 1 0\n", "cost 6\ncost 6\n")
}

func TestP31_1_PeriodsAndBills(t *testing.T) {
	then(t, "event 1 3 1 3\nevent 2 4 2 41\nevent 3 4 1 1\nroll\nbill 1 0\nbill 3 0\nbill 2 1\nroll\nbill 2 1\nbill 9 0\n", `cost 6
cost 5
cost 2
expired 361
invoice of 1 for period 0
  project 3 group 1 tier 0: 3 blocks at 2 = 6
  project 4 group 1 tier 0: 1 blocks at 2 = 2
  project 4 group 2 tier 1: 5 blocks at 1 = 5
  group 1: 8
  group 2: 5
total 13
invoice of 3 for period 0
  project 3 group 1 tier 0: 3 blocks at 2 = 6
  group 1: 6
total 6
error 7
expired 0
invoice of 2 for period 1
total 0
error 7
`)
	// Nobody carries what is left.
	then(t, "open 5 3 1 10\nroll\nbalance 3\nclose 5 1 1 0\nbalance 3\n", "granted 10 of 1 for 20 until 20\nexpired 340\navailable 0 held 20 used 0\ncost 0\navailable 20 held 0 used 0\n")
}

func TestP31_1_Ticks(t *testing.T) {
	then(t, "open 7 3 1 1\nopen 9 4 1 1\ntick\nopen 12 3 1 1\n"+strings.Repeat("tick\n", 22), `granted 1 of 1 for 2 until 20
granted 1 of 1 for 2 until 20
closed
granted 1 of 1 for 2 until 21
`+strings.Repeat("closed\n", 19)+"closed 7 9\nclosed 12\nclosed\n")
}

func TestP31_1_Reports(t *testing.T) {
	then(t, "event 1 3 1 3\nevent 2 4 1 6\ntrial 0\ntrial 1\nday 3\nday 9\nshares 2 10\nshares 1 0\nshares 9 1\n", `cost 6
cost 12
cash: 400
funds 1: -82
funds 2: -82
funds 3: -94
funds 4: -88
usage 1 group 1: -18
usage 2 group 1: -18
usage 3 group 1: -6
usage 4 group 1: -12
debits 508 credits 508
no trial
quarter 0 of 3 blocks, strength 9
no quarter of 0 blocks
project 3: 4
project 4: 6
project 3: 0
project 4: 0
no shares
`)
	// A day has 24 ticks.
	then(t, strings.Repeat("tick\n", 6)+"event 1 3 1 3\n"+strings.Repeat("tick\n", 12)+"event 2 3 1 4\nday 3\n"+strings.Repeat("tick\n", 6)+"event 3 3 1 9\nday 3\n",
		strings.Repeat("closed\n", 6)+"cost 6\n"+strings.Repeat("closed\n", 12)+"cost 8\nquarter 3 of 7 blocks, strength 1\n"+strings.Repeat("closed\n", 6)+"cost 18\nquarter 0 of 16 blocks, strength 82\n")
}

// The errors of the layers below, by their numbers.
func TestP31_1_Errors(t *testing.T) {
	nine := ""
	for i := 1; i <= 8; i++ {
		nine += fmt.Sprintf("open %d 3 1 1\n", i)
	}
	granted := strings.Repeat("granted 1 of 1 for 2 until 20\n", 8)
	for _, c := range []struct {
		lines, want string
		err         int
	}{
		{"topup 1 0\n", "", 1},
		{"org 0\n", "", 1},
		{"org 33\n", "", 1},
		{"open 0 3 1 1\n", "", 13},
		{"open 5 3 1 0\n", "", 1},
		{"event 1 3 1 0\n", "", 1},
		// There are no bytes of a plan that is none.
		{"flat 0 1 1\n", "", 2},
		{"flat 9 1 1\n", "", 2},
		{"flat 1 0 1\n", "", 2},
		{"flat 1 1 1048577\n", "", 2},
		{"volume 1 1 1 0 1\n", "", 2},
		{"volume 1 1 1048577 1 1\n", "", 2},
		{"volume 1 1 1 1 1048577\n", "", 2},
		{"balance 0\n", "", 7},
		{"balance 33\n", "", 7},
		{"topup 9 1\n", "", 7},
		{"shut 9\n", "", 7},
		{"move 9 2\n", "", 7},
		{"limit 9 2\n", "", 7},
		{"team 9 8\n", "", 7},
		{"open 5 3 3 1\n", "", 7},
		{"event 1 3 3 1\n", "", 7},
		{"bill 1 0\n", "", 7},
		{"more 5 1 1 0 0\n", "", 7},
		{"close 5 1 1 0\n", "", 7},
		{"org 1\n", "", 8},
		{"project 4 2\n", "", 8},
		{"move 4 2\n", "", 8},
		{"event 1 3 1 1\nrefund 2 1\nrefund 3 1\n", "cost 2\ncost 2\n", 8},
		{"event 1 3 1 51\n", "", 9},
		{"event 1 3 1 50\nopen 5 3 1 1\n", "cost 100\n", 9},
		{nine + "open 9 3 1 1\n", granted, 10},
		{strings.Repeat("roll\n", 32), "expired 400\n" + strings.Repeat("expired 0\n", 30), 10},
		{"open 5 3 1 1\nclose 5 1 1 0\nopen 4 3 1 1\n", "granted 1 of 1 for 2 until 20\ncost 0\n", 13},
		{"refund 1 1\n", "", 13},
		{"event 5 3 1 1\nevent 4 3 1 1\n", "cost 2\n", 13},
		{"open 5 3 1 1\nopen 5 3 1 2\n", "granted 1 of 1 for 2 until 20\n", 14},
		{"event 5 3 1 1\nevent 5 3 1 2\n", "cost 2\n", 14},
		{"open 5 3 1 1\nmore 5 2 1 0 0\n", "granted 1 of 1 for 2 until 20\n", 15},
		{"shut 3\ntopup 3 1\n", "ok\n", 16},
		{"shut 3\nshut 3\n", "ok\n", 16},
		{"shut 3\nevent 1 3 1 1\n", "ok\n", 16},
		{"open 5 3 1 1\nclose 5 1 1 0\nmore 5 2 1 0 0\n", "granted 1 of 1 for 2 until 20\ncost 0\n", 16},
		{"shut 2\n", "", 17},
		{"open 5 3 1 1\nflat 1 1 1\n", "granted 1 of 1 for 2 until 20\n", 17},
		{"event 1 3 1 1\nmove 3 2\n", "cost 2\n", 17},
		{"limit 2 5\nevent 1 3 1 3\n", "ok\n", 18},
		{"open 5 3 1 1\nmore 5 1 1 2 0\n", "granted 1 of 1 for 2 until 20\n", 19},
		{"open 5 3 1 1\nclose 5 1 2 1\n", "granted 1 of 1 for 2 until 20\n", 19},
		{"open 5 2 1 1\n", "", 21},
		{"event 1 1 1 1\n", "", 21},
		{"team 9 2\n", "", 21},
		{"team 9 0\n", "", 21},
		{"move 1 1\n", "", 21},
	} {
		then(t, c.lines, c.want+fmt.Sprintf("error %d\n", c.err))
	}
}

// right are lines of each form, that tell something else than "what?".
var right = []string{
	"org 9", "team 9 1", "project 9 2", "move 3 2", "shut 3", "limit 3 5", "topup 3 5", "flat 3 1 2", "volume 3 1 2 3 4",
	"open 5 3 1 2", "more 5 1 1 0 2", "close 5 1 1 0", "event 1 3 1 2", "refund 1 1", "roll", "balance 3", "bill 1 0",
	"tick", "crash", "tree", "trial 0", "day 3", "shares 1 7",
}

// strange holds that lines are none of those that there are, and that nothing is done of them.
func strange(t *testing.T, lines []string) {
	t.Helper()
	m := fresh(t)
	m.script(laid)
	state := m.script("tree\ntrial 0\nday 3\n")
	for part := range slices.Chunk(lines, 150) {
		script, want := laid+strings.Join(part, "\n")+"\ntree\ntrial 0\nday 3\n", oks(10)+strings.Repeat("what?\n", len(part))+state
		if shell.Run(script) == want {
			continue
		}
		for _, line := range part {
			if got := shell.Run(laid + line); got != oks(10)+"what?\n" {
				t.Errorf("%.200q: %.200q", line, got[min(len(got), len(oks(10))):])
			}
		}
		t.Errorf("among %.200q: there is one that isn't as it must be", part)
	}
	for _, line := range lines {
		if got := m.line(line); got != "what?\n" {
			t.Errorf("%.200q: the model tells %q", line, got)
		}
	}
}

func TestP31_1_EachLineAsItIs(t *testing.T) {
	if len(right) != len(forms) {
		t.Fatalf("%d lines, and %d forms", len(right), len(forms))
	}
	for i, line := range right {
		if form, _ := numbers(line); form != forms[i] {
			t.Errorf("%q is of the form %q, not %q", line, form, forms[i])
		}
		if got := shell.Run(laid + line); got == oks(10)+"what?\n" || got == oks(10) {
			t.Errorf("%q: %q", line, got)
		}
		agrees(t, laid+line)
		// A line end behind it changes nothing.
		if shell.Run(laid+line) != shell.Run(laid+line+"\n") {
			t.Errorf("%q: another thing with a line end", line)
		}
	}
}

func TestP31_1_MoreWordsAndLess(t *testing.T) {
	var bad []string
	for _, line := range right {
		for _, more := range []string{" 1", " 0", " 1 1", " x", " " + line, " 1 1 1 1 1 1 1 1"} {
			bad = append(bad, line+more)
		}
		if words := strings.Split(line, " "); len(words) > 1 {
			bad = append(bad, strings.Join(words[:len(words)-1], " "), words[0], strings.Join(words[1:], " "))
		}
	}
	strange(t, bad)
}

func TestP31_1_Blanks(t *testing.T) {
	bad := []string{" ", "  ", "      ", "\t", "\r", "\x00", " #", " # org 1", "\t#"}
	for _, line := range right {
		bad = append(bad, " "+line, line+" ", "  "+line, line+"  ", "\t"+line, line+"\t", line+"\r", "\v"+line, line+"\x00", line+"\u00a0")
		for i, c := range line {
			if c == ' ' {
				for _, blank := range []string{"  ", "   ", "\t", " \t", "\u00a0", "\u2003", ",", ""} {
					bad = append(bad, line[:i]+blank+line[i+1:])
				}
			}
		}
	}
	strange(t, bad)
}

func TestP31_1_WordsThatAreNoLine(t *testing.T) {
	bad := []string{"foo", "?", "é", "\xff\xfe", "org1", "org\x001", "\"org 1\"", "org 1;org 2", "1 2 3", "-"}
	bad = append(bad, strings.Repeat("x", 100000), strings.Repeat(" ", 100000), "org"+strings.Repeat(" 1", 100000))
	for _, line := range right {
		word, rest, _ := strings.Cut(line, " ")
		for _, other := range []string{strings.ToUpper(word), strings.ToUpper(word[:1]) + word[1:], word + "s", "x" + word, word[1:], word[:len(word)-1], "1" + word, word + ":", "what?", "ok", "1", "0", "price", "create", "initial", "carry"} {
			bad = append(bad, strings.TrimSpace(other+" "+rest))
		}
	}
	strange(t, bad)
}

func TestP31_1_WordsThatAreNoNumber(t *testing.T) {
	words := []string{"00", "01", "007", "0000000000", "1234567890", "1000000000", "0123456789", "99999999999999999999", "-1", "+1", "-0", "1.0", "1e3", "1_0", "0x1", "a", "1a", "a1", "N", "one", "٣", "１", "½", "1,0", "'1'", "#", "#1", "\x00", "\xff", strings.Repeat("9", 100000)}
	var bad []string
	for _, line := range right {
		for i := range strings.Count(line, " ") {
			for _, word := range words {
				l := strings.Split(line, " ")
				l[1+i] = word
				bad = append(bad, strings.Join(l, " "))
			}
		}
	}
	strange(t, bad)
}

func TestP31_1_WordsThatAreNumbers(t *testing.T) {
	for _, line := range right {
		words := strings.Split(line, " ")
		for i := range words[1:] {
			for _, n := range []string{"0", "1", "9", "10", "32", "33", "100", "101", "123456789", "999999999", "100000000", "500000000"} {
				l := slices.Clone(words)
				l[1+i] = n
				if got := agrees(t, laid+strings.Join(l, " ")); strings.Contains(got, "what?") {
					t.Errorf("%q isn't taken", strings.Join(l, " "))
				}
			}
		}
	}
	then(t, "topup 1 999999999\nbalance 1\n", "ok\navailable 1000000099 held 0 used 0\n")
	then(t, "event 0 3 1 1\n", "cost 2\n")
}

// Lines that are empty, and those that begin with #, give nothing, wherever they stand.
func TestP31_1_LinesThatGiveNothing(t *testing.T) {
	want := shell.Run(laid + "event 1 3 1 3\nbalance 3\n")
	for _, none := range []string{"", "#", "# balance 3", "#balance 3", "##", "# ", "#\t\x00\xff", "#" + strings.Repeat(" 1", 5000)} {
		script := none
		for _, line := range strings.Split(laid+"event 1 3 1 3\nbalance 3", "\n") {
			script += "\n" + line + "\n" + none
		}
		tells(t, script, want)
		tells(t, script+"\n\n\n", want)
	}
	then(t, "balance #3\nbalance 3 #\nbalance 3#\nx#\n", strings.Repeat("what?\n", 4))
}

func TestP31_1_LineEnds(t *testing.T) {
	want := oks(10) + "available 100 held 0 used 0\n"
	for _, end := range []string{"", "\n", "\n\n", "\n\n\n\n"} {
		tells(t, laid+"balance 3"+end, want)
	}
	// A line is parted from the next one by the line end alone.
	then(t, "balance 3\rbalance 3\n", "what?\n")
	then(t, "balance 3\u2028balance 3\n", "what?\n")
	then(t, "balance 3\r\nbalance 3\r\n", "what?\nwhat?\n")
}

func TestP31_1_200Lines(t *testing.T) {
	for _, n := range []int{198, 199, 200, 201, 202, 250, 5000} {
		for _, end := range []string{"", "\n"} {
			topups := strings.Repeat("topup 1 1\n", n-2)
			script := "org 1\n" + topups + "balance 1" + end
			want := oks(min(n-1, 200))
			if n <= 200 {
				want += fmt.Sprintf("available %d held 0 used 0\n", n-2)
			}
			tells(t, script, want)
		}
	}
	// Lines that give nothing count, too, and so do those that are none.
	for _, none := range []string{"", "#", "what", "  "} {
		told := shell.Run(none + "\n")
		tells(t, strings.Repeat(none+"\n", 199)+"org 1\norg 2\n", strings.Repeat(told, 199)+"ok\n")
		tells(t, strings.Repeat(none+"\n", 200)+"org 1\n", strings.Repeat(told, 200))
	}
	// What stands behind them isn't looked at.
	tells(t, "org 1\n"+strings.Repeat("#\n", 199)+strings.Repeat("balance 1\n\xff\n", 1000), "ok\n")
	// The greatest script: 200 lines with as many records.
	long := "org 1\nteam 2 1\nproject 3 2\ntopup 1 900000000\ntopup 2 900000000\ntopup 3 900000000\nflat 1 1 1\n"
	for i := 7; i < 199; i++ {
		long += fmt.Sprintf("event %d 3 1 %d\n", 999999000+i, 900000+i)
	}
	agrees(t, long+"balance 3")
}

// drawn answers a line by chance, that fits what is laid more often than not.
func drawn(r *rand.Rand, i int, numbers map[int]int) string {
	session, node, group := 1+i/20, 3+r.Intn(2), 1+r.Intn(3)
	switch r.Intn(24) {
	case 0, 1, 2:
		return fmt.Sprintf("open %d %d %d %d", session+r.Intn(3), node, group, 1+r.Intn(20))
	case 3, 4, 5, 6:
		id := max(1, session-r.Intn(3))
		numbers[id]++
		return fmt.Sprintf("more %d %d %d %d %d", id, numbers[id], group, r.Intn(3), r.Intn(12))
	case 7:
		id := max(1, session-r.Intn(3))
		numbers[id]++
		return fmt.Sprintf("close %d %d %d %d", id, numbers[id], group, r.Intn(3))
	case 8, 9, 10:
		return fmt.Sprintf("event %d %d %d %d", i-r.Intn(2), node, group, 1+r.Intn(30))
	case 11:
		return fmt.Sprintf("refund %d %d", i, max(0, i-1-r.Intn(6)))
	case 12:
		return fmt.Sprintf("topup %d %d", 1+r.Intn(6), r.Intn(300))
	case 13:
		return "tree"
	case 14:
		return fmt.Sprintf("trial %d", r.Intn(3))
	case 15:
		return fmt.Sprintf("shares %d %d", r.Intn(6), r.Intn(500))
	case 16:
		return fmt.Sprintf("day %d", node)
	case 17, 18:
		return fmt.Sprintf("balance %d", r.Intn(6))
	case 19:
		return fmt.Sprintf("bill %d %d", r.Intn(6), r.Intn(2))
	case 20:
		return []string{"", "#", "what", "crash", "shut 4", "roll", "limit 3 400", "limit 2 999999999", "move 3 5", "move 3 2"}[r.Intn(10)]
	case 21:
		return fmt.Sprintf("%s %d %d", []string{"team", "project"}[r.Intn(2)], 3+r.Intn(5), 1+r.Intn(3))
	case 22:
		return fmt.Sprintf("flat %d %d %d", r.Intn(5), 1+r.Intn(4), r.Intn(5))
	}
	return strings.Repeat("tick\n", r.Intn(4)) + "tick"
}

// script answers a script by chance, of so many draws.
func script(seed int64, draws int) string {
	r, numbers := rand.New(rand.NewSource(seed)), map[int]int{}
	s := laid
	for i := range draws {
		s += drawn(r, i, numbers) + "\n"
	}
	return s
}

func TestP31_1_ScriptsAsTheModelTells(t *testing.T) {
	told := map[string]int{}
	for seed := range int64(150) {
		for _, line := range strings.Split(agrees(t, script(seed, 170)), "\n") {
			word, _, _ := strings.Cut(line, " ")
			if word == "error" || word == "granted" && strings.Contains(line, "cost") {
				word = line[:min(len(line), 8)]
			}
			told[word]++
		}
	}
	for _, word := range []string{"ok", "what?", "granted", "granted ", "cost", "expired", "available", "invoice", "total", "closed", "error 7", "error 9", "error 13", "error 8", "quarter", "project", "debits", "no", "org"} {
		if told[word] < 30 {
			t.Errorf("%q was told %d times", word, told[word])
		}
	}
}

// Whatever the bytes of a script are, each line tells what the model does.
func TestP31_1_AnyBytes(t *testing.T) {
	pieces := []string{"org", "team", "topup", "event", "tree", "tick", "crash", "trial", " ", " ", " ", "0", "1", "2", "3", "12", "\n", "\n", "\n", "#", "\r", "\t", "\x00", "\xff", "é", "-", "what?"}
	for seed := range int64(300) {
		r := rand.New(rand.NewSource(seed))
		var b strings.Builder
		if seed%2 == 0 {
			b.WriteString(laid)
		}
		for range r.Intn(600) {
			if r.Intn(8) == 0 {
				b.WriteByte(byte(r.Intn(256)))
			} else {
				b.WriteString(pieces[r.Intn(len(pieces))])
			}
		}
		agrees(t, b.String())
	}
	long := strings.Repeat("\xc3\n \n#\n", 300000)
	agrees(t, long)
	tells(t, strings.Repeat("\n", 1<<22)+"org 1", "")
	tells(t, strings.Repeat(" ", 1<<22), "what?\n")
}

// A crash between any two lines tells ok, and changes no line.
func TestP31_2_ACrashBetweenAnyTwoLines(t *testing.T) {
	story := laid + `open 5 3 1 10
tick
more 5 1 1 4 5
event 1 4 2 30
refund 2 1
limit 4 50
team 6 1
move 4 6
close 5 2 1 5
close 5 2 1 5
open 6 4 2 20
what
shut 9
tree
roll
bill 1 0
trial 0
day 3
shares 1 7
tick
balance 4`
	lines := strings.Split(story, "\n")
	want := make([]string, len(lines)+1)
	for i := range lines {
		want[i+1] = shell.Run(strings.Join(lines[:i+1], "\n"))
	}
	whole := want[len(lines)]
	for i := range len(lines) + 1 {
		script := strings.Join(slices.Insert(slices.Clone(lines), i, "crash"), "\n")
		tells(t, script, want[i]+"ok\n"+whole[len(want[i]):])
	}
	every := "crash\n" + strings.ReplaceAll(story, "\n", "\ncrash\ncrash\n") + "\ncrash"
	crashed := "ok\n"
	for i := range lines {
		crashed += whole[len(want[i]):len(want[i+1])] + "ok\n"
		if i < len(lines)-1 {
			crashed += "ok\n"
		}
	}
	tells(t, every, crashed)
}

func TestP31_2_CrashesByChance(t *testing.T) {
	for seed := range int64(60) {
		r := rand.New(rand.NewSource(seed))
		lines := strings.Split(strings.TrimSuffix(script(seed, 60), "\n"), "\n")
		if len(lines) > 130 {
			lines = lines[:130]
		}
		m, with, want := fresh(t), "", ""
		for _, line := range lines {
			with, want = with+line+"\n", want+m.line(line)
			if r.Intn(3) == 0 {
				with, want = with+"crash\n", want+"ok\n"
			}
		}
		if strings.Count(with, "\n") > 200 {
			t.Fatalf("script %d has %d lines", seed, strings.Count(with, "\n"))
		}
		if got := shell.Run(with); got != want {
			t.Fatalf("script %d:\n%s\n:\n%s\nnot\n%s", seed, with, got, want)
		}
	}
}
