package shell_test

import (
	"fmt"
	"regexp"
	"strconv"
	"strings"
	"testing"

	"purser/api"
	"purser/invoice"
	"purser/ledger"
	"purser/report"
	"purser/server"
	"purser/shell"
	"purser/tariff"
	"purser/wire"
)

// forms are the lines that there are: N stands for a number.
var forms = []string{
	"org N", "team N N", "project N N", "move N N", "shut N", "limit N N", "topup N N", "flat N N N", "volume N N N N N",
	"open N N N N", "more N N N N N", "close N N N N", "event N N N N", "refund N N", "roll", "balance N", "bill N N",
	"tick", "crash", "tree", "trial N", "day N", "shares N N",
}

// number is what a number is.
const number = `(0|[1-9][0-9]{0,8})`

// model is what a shell has to be: a server that never crashes.
type model struct {
	t *testing.T
	s *server.Server
}

// fresh answers the model of a shell at its beginning.
func fresh(t *testing.T) *model {
	t.Helper()
	s, err := server.New(ledger.Config{Validity: 20, Places: 8, Day: 24})
	if err != api.OK {
		t.Fatalf("server.New: %d", err)
	}
	return &model{t, s}
}

// patterns are what a line of each form is.
var patterns = func() []*regexp.Regexp {
	var l []*regexp.Regexp
	for _, form := range forms {
		l = append(l, regexp.MustCompile(`\A`+strings.ReplaceAll(form, "N", number)+`\z`))
	}
	return l
}()

// numbers answers a line's form, and its numbers, if there is such a form.
func numbers(line string) (string, []int) {
	for i, form := range forms {
		if m := patterns[i].FindStringSubmatch(line); m != nil {
			var l []int
			for _, s := range m[1:] {
				n, _ := strconv.Atoi(s)
				l = append(l, n)
			}
			return form, append(l, 0)
		}
	}
	return "", nil
}

// line answers what comes of a line.
func (m *model) line(line string) string {
	if line == "" || line[0] == '#' {
		return ""
	}
	form, n := numbers(line)
	l := m.s.Ledger()
	word, _, _ := strings.Cut(form, " ")
	tier := func(upto, price int) api.Tier { return api.Tier{Upto: upto, Price: price} }
	plan := func(mode int, tiers ...api.Tier) wire.Request {
		return wire.Request{Kind: 11, Plan: tariff.Plan{Base: api.Tariff{Group: n[0], Block: n[1], Mode: mode, Tiers: tiers}}}
	}
	items := func(group, used, want int) []wire.Item { return []wire.Item{{Group: group, Used: used, Want: want}} }
	switch word {
	case "":
		return "what?\n"
	case "crash":
		return "ok\n"
	case "tick":
		over, _ := m.s.Tick()
		return strings.TrimSpace("closed "+strings.Trim(fmt.Sprint(over), "[]")) + "\n"
	case "tree":
		return report.Tree(l)
	case "trial":
		return report.Trial(l, n[0])
	case "day":
		return report.Day(l, n[0])
	case "shares":
		return report.Shares(l, n[0], n[1])
	case "org", "team", "project":
		return m.ask(wire.Request{Kind: 6, Node: n[0], Parent: n[1], Sort: strings.Index("otp", word[:1]) + 1, Limit: -1})
	case "move":
		return m.ask(wire.Request{Kind: 7, Node: n[0], Parent: n[1]})
	case "shut":
		return m.ask(wire.Request{Kind: 8, Node: n[0]})
	case "limit":
		return m.ask(wire.Request{Kind: 9, Node: n[0], Limit: n[1]})
	case "topup":
		return m.ask(wire.Request{Kind: 10, Node: n[0], Amount: n[1]})
	case "flat":
		return m.ask(plan(1, tier(0, n[2])))
	case "volume":
		return m.ask(plan(2, tier(n[3], n[2]), tier(0, n[4])))
	case "open":
		return m.ask(wire.Request{Kind: 1, Session: n[0], Node: n[1], Items: items(n[2], 0, n[3])})
	case "more":
		return m.ask(wire.Request{Kind: 2, Session: n[0], Number: n[1], Items: items(n[2], n[3], n[4])})
	case "close":
		return m.ask(wire.Request{Kind: 3, Session: n[0], Number: n[1], Items: items(n[2], n[3], 0)})
	case "event":
		return m.ask(wire.Request{Kind: 4, Number: n[0], Node: n[1], Group: n[2], Units: n[3]})
	case "refund":
		return m.ask(wire.Request{Kind: 5, Number: n[0], Of: n[1]})
	case "roll":
		return m.ask(wire.Request{Kind: 12})
	case "balance":
		return m.ask(wire.Request{Kind: 13, Node: n[0]})
	}
	return m.ask(wire.Request{Kind: 14, Node: n[0], Period: n[1]})
}

// ask answers what comes of a request.
func (m *model) ask(r wire.Request) string {
	b, err := wire.Ask(r)
	if err != api.OK {
		return fmt.Sprintf("error %d\n", err)
	}
	a, err := wire.Told(m.s.Do(b))
	if err != api.OK {
		m.t.Fatalf("%+v: no answer", r)
	}
	if a.Err != api.OK {
		return fmt.Sprintf("error %d\n", a.Err)
	}
	switch a.Kind {
	case 1, 2:
		s := "nothing"
		for _, g := range a.Grants {
			s = fmt.Sprintf("%d of %d for %d%s", g.Units, g.Group, g.Amount, map[bool]string{true: " final"}[g.Final])
		}
		s = fmt.Sprintf("granted %s until %d", s, a.Deadline)
		if a.Kind == 2 {
			s += fmt.Sprintf(", cost %d", a.Cost)
		}
		return s + "\n"
	case 3, 4, 5:
		return fmt.Sprintf("cost %d\n", a.Cost)
	case 12:
		return fmt.Sprintf("expired %d\n", a.Expired)
	case 13:
		return fmt.Sprintf("available %d held %d used %d\n", a.Available, a.Account.Held, a.Account.Used)
	case 14:
		x, err := invoice.Read(a.Invoice)
		if err != api.OK {
			m.t.Fatalf("%+v: no invoice", r)
		}
		return invoice.Text(x)
	}
	return "ok\n"
}

// script answers what comes of a script.
func (m *model) script(script string) string {
	s := ""
	for i, line := range strings.Split(script, "\n") {
		if i < 200 {
			s += m.line(line)
		}
	}
	return s
}

// tells holds that a script tells this, twice.
func tells(t *testing.T, script, want string) {
	t.Helper()
	for range 2 {
		if got := shell.Run(script); got != want {
			t.Errorf("%q:\n%s\nnot\n%s", script, got, want)
		}
	}
}

// agrees holds that a script tells what the model does, and answers that.
func agrees(t *testing.T, script string) string {
	t.Helper()
	want := fresh(t).script(script)
	if got := shell.Run(script); got != want {
		t.Fatalf("%s\n:\n%s\nnot\n%s", script, got, want)
	}
	return want
}
