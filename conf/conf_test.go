package conf

import (
	"math"
	"slices"
	"strconv"
	"strings"
	"sync"
	"testing"

	"chronobate/api"
)

// good is a config that may be, made anew by each call; goodText is its text.
func good() api.Config {
	return api.Config{Servers: []int{7, 3}, Quorum: 2, Least: 4, Most: 16, Delay: 1000, Slew: 500}
}

const goodText = "server 7\nserver 3\nquorum 2\npoll 4 16\ndelay 1000\nslew 500\n"

// goodLines are the lines of goodText, without their ends.
func goodLines() []string { return strings.Split(strings.TrimSuffix(goodText, "\n"), "\n") }

// with is the good config after a change.
func with(change func(c *api.Config)) api.Config {
	c := good()
	change(&c)
	return c
}

// servers is the good config with other servers, and a quorum that may be of any number of them.
func servers(addrs ...int) api.Config {
	return with(func(c *api.Config) { c.Servers, c.Quorum = addrs, 1 })
}

// row are the numbers from first on, count of them.
func row(first, count int) []int {
	var out []int
	for i := range count {
		out = append(out, first+i)
	}
	return out
}

// equal holds two configs against each other without Same.
func equal(a, b api.Config) bool {
	five := func(c api.Config) [5]int { return [5]int{c.Quorum, c.Least, c.Most, c.Delay, c.Slew} }
	return slices.Equal(a.Servers, b.Servers) && five(a) == five(b)
}

// nothing tells whether a config is what stands beside an error.
func nothing(c api.Config) bool { return len(c.Servers) == 0 && equal(c, api.Config{}) }

// textOf is a config's text, as the chapter's head tells it.
func textOf(c api.Config) string {
	var out []string
	for _, s := range c.Servers {
		out = append(out, "server "+strconv.Itoa(s))
	}
	out = append(out, "quorum "+strconv.Itoa(c.Quorum), "poll "+strconv.Itoa(c.Least)+" "+strconv.Itoa(c.Most), "delay "+strconv.Itoa(c.Delay), "slew "+strconv.Itoa(c.Slew))
	return strings.Join(out, "\n") + "\n"
}

// wantCheck holds Check and Print of a config against an error, or against its text, and looks whether the config is still what it was.
func wantCheck(t *testing.T, c api.Config, want api.Errno) {
	t.Helper()
	before := c
	before.Servers = slices.Clone(c.Servers)
	if e := Check(c); e != want {
		t.Errorf("Check(%v): %v, want %v", c, e, want)
	}
	text := ""
	if want == api.OK {
		text = textOf(c)
	}
	if got, e := Print(c); got != text || e != want {
		t.Errorf("Print(%v): %q %v, want %q %v", c, got, e, text, want)
	}
	if !equal(c, before) {
		t.Errorf("%v was changed: %v", before, c)
	}
}

// wantConfig holds what Parse answers against a config.
func wantConfig(t *testing.T, text string, want api.Config) {
	t.Helper()
	if c, n, e := Parse(text); !equal(c, want) || n != 0 || e != api.OK {
		t.Errorf("%q: %v %d %v, want %v", text, c, n, e, want)
	}
}

// wantWrong holds what Parse answers against a line and an error.
func wantWrong(t *testing.T, text string, number int, err api.Errno) {
	t.Helper()
	if c, n, e := Parse(text); !nothing(c) || n != number || e != err {
		if len(text) > 300 {
			text = text[:300] + ".."
		}
		t.Errorf("%q: %v %d %v, want %d %v", text, c, n, e, number, err)
	}
}

// The chapter's example.
func TestExamples(t *testing.T) {
	const text = "server 7\nquorum 1\npoll 4 16\ndelay 1000\nslew 500\n"
	want := api.Config{Servers: []int{7}, Quorum: 1, Least: 4, Most: 16, Delay: 1000, Slew: 500}
	wantConfig(t, text, want)
	wantCheck(t, want, api.OK)
	if got, e := Print(want); got != text || e != api.OK {
		t.Errorf("%q %v", got, e)
	}
}

// P6.1: how many servers.
func TestHowManyServers(t *testing.T) {
	wantCheck(t, servers(), api.ErrLack)
	wantCheck(t, servers([]int{}...), api.ErrLack)
	wantCheck(t, with(func(c *api.Config) { c.Servers = nil }), api.ErrLack)
	wantCheck(t, with(func(c *api.Config) { c.Servers = []int{} }), api.ErrLack)
	wantCheck(t, with(func(c *api.Config) { c.Servers = make([]int, 0, 20) }), api.ErrLack)
	wantCheck(t, with(func(c *api.Config) { c.Servers = []int{7, 3}[:0] }), api.ErrLack)
	for count := 1; count <= 16; count++ {
		wantCheck(t, servers(row(1, count)...), api.OK)
		wantCheck(t, servers(row(65536-count, count)...), api.OK)
	}
	for _, count := range []int{17, 18, 32, 33, 100, 1000, 65535} {
		wantCheck(t, servers(row(1, count)...), api.ErrFull)
	}
	// ErrLack and ErrFull go ahead of all that is wrong beside them.
	wantCheck(t, api.Config{}, api.ErrLack)
	wantCheck(t, api.Config{Quorum: -1, Least: math.MinInt, Most: math.MaxInt, Delay: math.MinInt, Slew: 501}, api.ErrLack)
	for at := range 17 {
		for _, wrong := range []int{0, -1, 65536, math.MinInt, math.MaxInt, 101} {
			list := row(101, 17)
			list[at] = wrong
			wantCheck(t, servers(list...), api.ErrFull)
		}
	}
	wantCheck(t, servers(make([]int, 17)...), api.ErrFull)
	wantCheck(t, with(func(c *api.Config) { c.Servers, c.Quorum, c.Slew = row(1, 17), 0, 0 }), api.ErrFull)
}

// P6.1: which addresses may be, wherever they stand.
func TestAddresses(t *testing.T) {
	for _, count := range []int{1, 2, 3, 16} {
		for at := range count {
			for addr, want := range map[int]api.Errno{
				1: api.OK, 2: api.OK, 255: api.OK, 256: api.OK, 32768: api.OK, 65534: api.OK, 65535: api.OK,
				0: api.ErrRange, -1: api.ErrRange, -7: api.ErrRange, 65536: api.ErrRange, 65537: api.ErrRange, 65536 + 7: api.ErrRange, 131072 + 5: api.ErrRange,
				1 << 31: api.ErrRange, 1<<32 + 7: api.ErrRange, math.MinInt: api.ErrRange, math.MinInt + 7: api.ErrRange, math.MaxInt: api.ErrRange, -65535: api.ErrRange,
			} {
				list := row(1000, count)
				list[at] = addr
				wantCheck(t, servers(list...), want)
			}
		}
	}
}

// P6.1: an address twice, and what goes ahead of what: of each server in order.
func TestAddressesTwice(t *testing.T) {
	for _, c := range []struct {
		list []int
		want api.Errno
	}{
		{[]int{5, 5}, api.ErrTwice}, {[]int{1, 1}, api.ErrTwice}, {[]int{65535, 65535}, api.ErrTwice},
		{[]int{5, 6, 5}, api.ErrTwice}, {[]int{6, 5, 5}, api.ErrTwice}, {[]int{5, 5, 6}, api.ErrTwice}, {[]int{5, 5, 5}, api.ErrTwice},
		{[]int{5, 6, 7, 8, 5}, api.ErrTwice}, {[]int{5, 6, 7, 8, 8}, api.ErrTwice}, {[]int{5, 6, 7, 8, 6}, api.ErrTwice},
		{[]int{5, 6}, api.OK}, {[]int{6, 5}, api.OK}, {[]int{5, 55, 555}, api.OK}, {[]int{1, 65535}, api.OK},
		// An address that may not be, behind one that stands twice, and ahead of it.
		{[]int{5, 5, 0}, api.ErrTwice}, {[]int{5, 5, 65536}, api.ErrTwice}, {[]int{5, 6, 5, -1}, api.ErrTwice},
		{[]int{0, 5, 5}, api.ErrRange}, {[]int{5, 0, 5}, api.ErrRange}, {[]int{65536, 5, 5}, api.ErrRange}, {[]int{5, 6, -1, 5}, api.ErrRange},
		// One that may not be is told as such, also if it stands twice.
		{[]int{0, 0}, api.ErrRange}, {[]int{65536, 65536}, api.ErrRange}, {[]int{5, 0, 0}, api.ErrRange}, {[]int{-1, -1}, api.ErrRange},
	} {
		wantCheck(t, servers(c.list...), c.want)
		// What is wrong with a number is told behind all servers.
		for _, number := range []func(c *api.Config){
			func(c *api.Config) { c.Quorum = 0 }, func(c *api.Config) { c.Quorum = len(c.Servers) + 1 }, func(c *api.Config) { c.Least = 3 },
			func(c *api.Config) { c.Most = 1025 }, func(c *api.Config) { c.Delay = 0 }, func(c *api.Config) { c.Slew = 501 },
		} {
			both := servers(c.list...)
			number(&both)
			if c.want == api.OK {
				wantCheck(t, both, api.ErrRange)
			} else {
				wantCheck(t, both, c.want)
			}
		}
	}
	for i := range 16 {
		for j := range i {
			list := row(1, 16)
			list[i] = list[j]
			wantCheck(t, servers(list...), api.ErrTwice)
		}
	}
}

// P6.1: the quorum is from 1 to how many servers there are.
func TestQuorum(t *testing.T) {
	for count := 1; count <= 16; count++ {
		for q := -2; q <= 20; q++ {
			want := api.ErrRange
			if 1 <= q && q <= count {
				want = api.OK
			}
			wantCheck(t, with(func(c *api.Config) { c.Servers, c.Quorum = row(1, count), q }), want)
		}
		for _, q := range []int{math.MinInt, math.MaxInt, 1 << 32, 1<<32 + 1, -1 << 32} {
			wantCheck(t, with(func(c *api.Config) { c.Servers, c.Quorum = row(1, count), q }), api.ErrRange)
		}
	}
}

// P6.1: Least and Most.
func TestPoll(t *testing.T) {
	edges := []int{math.MinInt, math.MinInt + 1, -1024, -4, -1, 0, 1, 3, 4, 5, 16, 1000, 1023, 1024, 1025, 1 << 31, 1<<32 + 4, math.MaxInt - 1, math.MaxInt}
	for _, least := range edges {
		for _, most := range edges {
			want := api.ErrRange
			if 4 <= least && least <= most && most <= 1024 {
				want = api.OK
			}
			wantCheck(t, with(func(c *api.Config) { c.Least, c.Most = least, most }), want)
		}
	}
	for _, c := range []struct {
		least, most int
		want        api.Errno
	}{
		{4, 4, api.OK}, {4, 1024, api.OK}, {1024, 1024, api.OK}, {5, 5, api.OK}, {5, 4, api.ErrRange}, {1024, 1023, api.ErrRange}, {1024, 4, api.ErrRange},
		{3, 4, api.ErrRange}, {3, 3, api.ErrRange}, {4, 3, api.ErrRange}, {4, 1025, api.ErrRange}, {1025, 1025, api.ErrRange}, {1025, 1024, api.ErrRange},
	} {
		wantCheck(t, with(func(x *api.Config) { x.Least, x.Most = c.least, c.most }), c.want)
	}
}

// P6.1: Delay is from 1 to 1000 times Least, less 2000; Most plays no part.
func TestDelay(t *testing.T) {
	for _, c := range []struct{ least, delay int }{{4, 2000}, {5, 3000}, {6, 4000}, {64, 62000}, {1000, 998000}, {1023, 1021000}, {1024, 1022000}} {
		for delay, want := range map[int]api.Errno{
			1: api.OK, 2: api.OK, c.delay - 1: api.OK, c.delay: api.OK, c.delay + 1: api.ErrRange, c.delay + 2000: api.ErrRange, c.delay + 1000: api.ErrRange,
			0: api.ErrRange, -1: api.ErrRange, -c.delay: api.ErrRange, math.MinInt: api.ErrRange, math.MaxInt: api.ErrRange, 1<<32 + 1: api.ErrRange,
		} {
			for _, most := range []int{c.least, 1024} {
				wantCheck(t, with(func(x *api.Config) { x.Least, x.Most, x.Delay = c.least, most, delay }), want)
			}
		}
	}
	// No product that wraps round makes a Least right.
	for _, least := range []int{math.MinInt, math.MaxInt, math.MaxInt/1000 + 3, math.MinInt/1000 - 3, 1 << 61, -1 << 61} {
		for _, delay := range []int{1, 1000, math.MaxInt} {
			wantCheck(t, with(func(x *api.Config) { x.Least, x.Most, x.Delay = least, math.MaxInt, delay }), api.ErrRange)
			wantCheck(t, with(func(x *api.Config) { x.Least, x.Most, x.Delay = least, 1024, delay }), api.ErrRange)
		}
	}
}

// P6.1: Slew.
func TestSlew(t *testing.T) {
	for slew, want := range map[int]api.Errno{
		1: api.OK, 2: api.OK, 250: api.OK, 499: api.OK, 500: api.OK,
		0: api.ErrRange, -1: api.ErrRange, -500: api.ErrRange, 501: api.ErrRange, 1000: api.ErrRange, 1<<32 + 1: api.ErrRange, math.MinInt: api.ErrRange, math.MaxInt: api.ErrRange,
	} {
		wantCheck(t, with(func(c *api.Config) { c.Slew = slew }), want)
	}
}

// P6.1: texts, byte by byte.
func TestPrint(t *testing.T) {
	for _, c := range []struct {
		c    api.Config
		want string
	}{
		{good(), goodText},
		{api.Config{Servers: []int{1}, Quorum: 1, Least: 4, Most: 4, Delay: 1, Slew: 1}, "server 1\nquorum 1\npoll 4 4\ndelay 1\nslew 1\n"},
		{api.Config{Servers: []int{65535, 1, 10}, Quorum: 3, Least: 1024, Most: 1024, Delay: 1022000, Slew: 500}, "server 65535\nserver 1\nserver 10\nquorum 3\npoll 1024 1024\ndelay 1022000\nslew 500\n"},
		{api.Config{Servers: row(9, 16), Quorum: 10, Least: 10, Most: 100, Delay: 100, Slew: 10}, "server 9\nserver 10\nserver 11\nserver 12\nserver 13\nserver 14\nserver 15\nserver 16\nserver 17\nserver 18\nserver 19\nserver 20\nserver 21\nserver 22\nserver 23\nserver 24\nquorum 10\npoll 10 100\ndelay 100\nslew 10\n"},
	} {
		if got, e := Print(c.c); got != c.want || e != api.OK {
			t.Errorf("%v: %q %v, want %q", c.c, got, e, c.want)
		}
	}
}

// P6.2: what Lines refuses: its line and its error, ahead of all that is wrong in a line ahead.
func TestParseWrongTexts(t *testing.T) {
	wantWrong(t, "\x01", 1, api.ErrForm)
	wantWrong(t, goodText+"\x01", 7, api.ErrForm)
	wantWrong(t, goodText+"\n\n\x7f", 9, api.ErrForm)
	wantWrong(t, strings.ReplaceAll(goodText, "\n", "\r\n"), 1, api.ErrForm)
	wantWrong(t, "server 7\nserver\u00a03\n", 2, api.ErrForm)
	wantWrong(t, "what\nserver x\nserver 7 # \x01\n\xff", 4, api.ErrForm)
	wantWrong(t, "server 7\nserver 7\n\nslew\x00", 4, api.ErrForm)
	wantWrong(t, strings.Repeat(" ", 65537), 0, api.ErrLong)
	wantWrong(t, strings.Repeat("\x01", 65537), 0, api.ErrLong)
	wantWrong(t, goodText+strings.Repeat("\n", 65537-len(goodText)), 0, api.ErrLong)
	wantWrong(t, "what\n"+strings.Repeat("#", 65537), 0, api.ErrLong)
	wantConfig(t, goodText+strings.Repeat("\n", 65536-len(goodText)), good())
	wantConfig(t, strings.Repeat("#", 65535-len(goodText))+"\n"+goodText, good())
	wantConfig(t, goodText+"# \x01\xff\r\u00e4", good())
}

// P6.2: a first word that is none of the five, whatever is behind it.
func TestParseKinds(t *testing.T) {
	words := []string{
		"servers", "serve", "Server", "SERVER", "sErver", "server:", "server=7", "server7", "Quorum", "QUORUM", "quorums", "quoru", "Poll", "POLL", "polls", "pol",
		"Delay", "DELAY", "delays", "dela", "Slew", "SLEW", "slews", "sle", "s", "7", "0", "least", "most", "taken", "~", "\"server\"", "server,",
	}
	for _, word := range words {
		for _, behind := range []string{"", " 7", " 4 16", " x", " 99999999999", " 1 2 3", " server 7"} {
			wantWrong(t, word+behind, 1, api.ErrKind)
			wantWrong(t, "\n# r\n\t"+word+behind+" # r", 3, api.ErrKind)
			wantWrong(t, goodText+word+behind, 7, api.ErrKind)
			wantWrong(t, word+behind+"\n"+goodText, 1, api.ErrKind)
		}
	}
}

// five are the five words, each with numbers behind it that may be.
func five() map[string][]string {
	return map[string][]string{"server": {"8"}, "quorum": {"1"}, "poll": {"5", "6"}, "delay": {"1"}, "slew": {"1"}}
}

// P6.2: one too few, one too many; that goes ahead of words that are no numbers, and of a word that is there already.
func TestParseCounts(t *testing.T) {
	for word, behind := range five() {
		for count := range 6 {
			if count == len(behind) {
				continue
			}
			for _, number := range []string{"1", "7", "x", "01", "99999999999"} {
				wrong := word + strings.Repeat(" "+number, count)
				wantWrong(t, wrong, 1, api.ErrForm)
				wantWrong(t, goodText+wrong, 7, api.ErrForm)
				wantWrong(t, goodText+" \t"+wrong+"\t # 1 2", 7, api.ErrForm)
				wantWrong(t, wrong+"\n"+goodText, 1, api.ErrForm)
			}
		}
		wantWrong(t, word+" # "+strings.Join(behind, " "), 1, api.ErrForm)
	}
}

// P6.2: words behind that are no numbers; of two the first one's error; ahead of a word that is there already.
func TestParseNumbers(t *testing.T) {
	wrongs := map[string]api.Errno{
		"x": api.ErrForm, "01": api.ErrForm, "00": api.ErrForm, "07": api.ErrForm, "-1": api.ErrForm, "+1": api.ErrForm, "1.5": api.ErrForm, "1e3": api.ErrForm, "0x4": api.ErrForm, "server": api.ErrForm, "4,": api.ErrForm, "099999999999": api.ErrForm, "99999999999x": api.ErrForm,
		"1000000001": api.ErrRange, "4294967303": api.ErrRange, "99999999999": api.ErrRange, "18446744073709551623": api.ErrRange,
	}
	for word, behind := range five() {
		for at := range behind {
			for number, want := range wrongs {
				words := append([]string{word}, behind...)
				words[1+at] = number
				wrong := strings.Join(words, " ")
				wantWrong(t, wrong, 1, want)
				wantWrong(t, goodText+wrong, 7, want)
				wantWrong(t, wrong+"\n"+goodText, 1, want)
				wantWrong(t, "\n"+wrong+"\nwhat", 2, want)
			}
		}
	}
	for first, want := range wrongs {
		for second := range wrongs {
			wantWrong(t, "poll "+first+" "+second, 1, want)
			wantWrong(t, goodText+"poll "+first+" "+second, 7, want)
		}
	}
	// Numbers that have a text, but may not be, are told behind all lines.
	for _, line := range []string{"quorum 0", "quorum 1000000000", "poll 0 0", "poll 4 1000000000", "poll 1000000000 1000000000", "delay 0", "delay 1000000000", "slew 0", "slew 1000000000"} {
		word, _, _ := strings.Cut(line, " ")
		lines := goodLines()
		for i := range lines {
			if strings.HasPrefix(lines[i], word) {
				lines[i] = line
			}
		}
		wantWrong(t, strings.Join(lines, "\n"), 0, api.ErrRange)
		wantWrong(t, strings.Join(lines, "\n")+"\nwhat", 7, api.ErrKind)
		wantWrong(t, line, 0, api.ErrLack)
	}
}

// P6.2: each word twice, with the same numbers or others.
func TestParseTwice(t *testing.T) {
	for _, line := range []string{
		"quorum 2", "quorum 1", "quorum 0", "poll 4 16", "poll 5 6", "poll 16 4", "delay 1000", "delay 1", "delay 0", "slew 500", "slew 1", "slew 1000000000",
		"server 7", "server 3",
	} {
		wantWrong(t, goodText+line, 7, api.ErrTwice)
		wantWrong(t, goodText+"\n#\n"+line+"\nwhat", 9, api.ErrTwice)
		wantWrong(t, line+"\n"+line, 2, api.ErrTwice)
		wantWrong(t, line+"\n\n\nserver 9\n"+line+"\n"+line, 5, api.ErrTwice)
	}
	wantWrong(t, "server 7\nserver 3\nserver 7\nserver 3", 3, api.ErrTwice)
	wantWrong(t, "server 0\nserver 0", 2, api.ErrTwice)
	wantWrong(t, "server 65536\nserver 1\nserver 65536", 3, api.ErrTwice)
	wantWrong(t, "server 1000000000\nserver 1000000000\n"+goodText, 2, api.ErrTwice)
}

// lines are a server's line of each address.
func lines(addrs ...int) string {
	text := ""
	for _, a := range addrs {
		text += "server " + strconv.Itoa(a) + "\n"
	}
	return text
}

// P6.2: the 17th server; ErrTwice goes ahead of ErrFull, ErrFull of an address that may not be.
func TestParseFull(t *testing.T) {
	const rest = "quorum 2\npoll 4 16\ndelay 1000\nslew 500\n"
	sixteen := lines(row(101, 16)...)
	want := with(func(c *api.Config) { c.Servers = row(101, 16) })
	wantConfig(t, sixteen+rest, want)
	wantConfig(t, rest+sixteen, want)
	for _, addr := range []int{1, 100, 117, 65535, 0, 65536, 1000000000} {
		wantWrong(t, sixteen+lines(addr), 17, api.ErrFull)
		wantWrong(t, sixteen+rest+lines(addr), 21, api.ErrFull)
		wantWrong(t, sixteen+rest+lines(addr, addr, 101), 21, api.ErrFull)
		wantWrong(t, rest+"\n"+sixteen+lines(addr)+"what", 22, api.ErrFull)
	}
	for _, addr := range row(101, 16) {
		wantWrong(t, sixteen+lines(addr), 17, api.ErrTwice)
		wantWrong(t, sixteen+rest+lines(addr, 1), 21, api.ErrTwice)
	}
	wantWrong(t, lines(append(row(0, 16), 0)...), 17, api.ErrTwice)
	wantWrong(t, lines(append(row(0, 16), 16)...), 17, api.ErrFull)
	wantWrong(t, sixteen+"server x", 17, api.ErrForm)
	wantWrong(t, sixteen+"server", 17, api.ErrForm)
	wantWrong(t, sixteen+"server 1 2", 17, api.ErrForm)
	wantWrong(t, sixteen+"server 1000000001", 17, api.ErrRange)
	wantWrong(t, lines(row(0, 16)...)+rest, 0, api.ErrRange)
}

// P6.2: words that aren't there; that goes ahead of what Check tells.
func TestParseLack(t *testing.T) {
	for _, text := range []string{"", "\n", " \t\n\n", "#", "# server 7\n", "#" + strings.ReplaceAll(goodText, "\n", "\n#")} {
		wantWrong(t, text, 0, api.ErrLack)
	}
	all := []string{"server 7", "quorum 1", "poll 4 16", "delay 1000", "slew 500"}
	wrong := []string{"server 0", "quorum 9", "poll 3 2", "delay 0", "slew 501"}
	for there := range 1 << len(all) {
		var right, bad []string
		for i := range all {
			if there>>i&1 == 1 {
				right, bad = append(right, all[i]), append(bad, wrong[i])
			}
		}
		if there == 1<<len(all)-1 {
			wantConfig(t, strings.Join(right, "\n"), with(func(c *api.Config) { c.Servers, c.Quorum = []int{7}, 1 }))
			wantWrong(t, strings.Join(bad, "\n"), 0, api.ErrRange)
			continue
		}
		wantWrong(t, strings.Join(right, "\n"), 0, api.ErrLack)
		wantWrong(t, strings.Join(right, "\n")+"\n", 0, api.ErrLack)
		wantWrong(t, strings.Join(bad, "\n"), 0, api.ErrLack)
	}
	// A word behind a # isn't there.
	for i := range all {
		text := slices.Clone(all)
		text[i] = "# " + text[i]
		wantWrong(t, strings.Join(text, "\n"), 0, api.ErrLack)
	}
}

// P6.2: what Check refuses is told with the line 0.
func TestParseChecks(t *testing.T) {
	for _, change := range [][2]string{
		{"server 7", "server 0"}, {"server 7", "server 65536"}, {"server 3", "server 0"}, {"server 3", "server 1000000000"},
		{"quorum 2", "quorum 0"}, {"quorum 2", "quorum 3"}, {"4 16", "3 16"}, {"4 16", "4 1025"}, {"4 16", "16 4"}, {"4 16", "5 4"}, {"4 16", "1025 1025"}, {"4 16", "0 0"},
		{"delay 1000", "delay 0"}, {"delay 1000", "delay 2001"}, {"slew 500", "slew 0"}, {"slew 500", "slew 501"},
	} {
		text := strings.Replace(goodText, change[0], change[1], 1)
		wantWrong(t, text, 0, api.ErrRange)
		wantWrong(t, "\n# r\n"+text+"\n\n", 0, api.ErrRange)
		wantWrong(t, text+"server 7 8", 7, api.ErrForm)
	}
	wantConfig(t, strings.Replace(goodText, "delay 1000", "delay 2000", 1), with(func(c *api.Config) { c.Delay = 2000 }))
	wantConfig(t, strings.Replace(goodText, "4 16", "4 4", 1), with(func(c *api.Config) { c.Most = 4 }))
	wantConfig(t, strings.Replace(goodText, "4 16", "1024 1024", 1), with(func(c *api.Config) { c.Least, c.Most = 1024, 1024 }))
}

// P6.2: of two wrong lines the first, whatever is wrong with it.
func TestParseFirstWrongLine(t *testing.T) {
	wrongs := []struct {
		line string
		want api.Errno
	}{
		{"what", api.ErrKind}, {"server", api.ErrForm}, {"poll 4", api.ErrForm}, {"server x", api.ErrForm}, {"server 1000000001", api.ErrRange},
		{"quorum 2 2", api.ErrForm}, {"slew 01", api.ErrForm}, {"poll 1 1000000001", api.ErrRange}, {"delay 1000", api.ErrTwice}, {"server 3", api.ErrTwice},
	}
	for _, first := range wrongs {
		for _, second := range wrongs {
			wantWrong(t, goodText+first.line+"\n"+second.line, 7, first.want)
			wantWrong(t, goodText+"\n"+first.line+"#\n\n"+second.line+"\n"+first.line, 8, first.want)
		}
	}
}

// orders calls do with the list in every order.
func orders(list []string, do func(list []string)) {
	var turn func(at int)
	turn = func(at int) {
		if at == len(list) {
			do(list)
			return
		}
		for i := at; i < len(list); i++ {
			list[at], list[i] = list[i], list[at]
			turn(at + 1)
			list[at], list[i] = list[i], list[at]
		}
	}
	turn(0)
}

// P6.2: lines in every order; servers stand in theirs.
func TestParseOrders(t *testing.T) {
	count := 0
	orders(goodLines(), func(list []string) {
		count++
		want := good()
		if slices.Index(list, "server 3") < slices.Index(list, "server 7") {
			want.Servers = []int{3, 7}
		}
		wantConfig(t, strings.Join(list, "\n"), want)
		wantConfig(t, "\n"+strings.Join(list, " # r\n\n\t")+"\n", want)
		// The line that is told is the text's, not that of those with words.
		wantWrong(t, "\n# r\n"+strings.Join(list, "\n\n")+"\n \nserver 7", 15, api.ErrTwice)
	})
	if count != 720 {
		t.Fatal(count)
	}
	wantConfig(t, lines(9, 2, 65535, 1)+"slew 500\n"+lines(4, 3)+"delay 1000\npoll 4 16\n"+lines(10)+"quorum 2\n"+lines(8), with(func(c *api.Config) { c.Servers = []int{9, 2, 65535, 1, 4, 3, 10, 8} }))
}

// P6.2: empty lines, blanks, tabs and remarks.
func TestParseBlanks(t *testing.T) {
	for _, blank := range []string{" ", "\t", "  ", " \t \t"} {
		for _, remark := range []string{"", "#", "# server 9", "#\xff\r\x00"} {
			text := strings.ReplaceAll(goodText, " ", blank)
			text = strings.ReplaceAll(text, "\n", blank+remark+"\n"+blank+remark+"\n"+blank)
			wantConfig(t, text, good())
			wantConfig(t, remark+"\n"+text+remark, good())
			wantWrong(t, text+"server"+blank+"7"+remark, 13, api.ErrTwice)
			wantWrong(t, remark+"\n\n"+text+"what"+remark, 15, api.ErrKind)
		}
	}
}

// number is what the document says of a word: its number, or what is wrong.
func number(word string) (int, api.Errno) {
	n, err := strconv.ParseUint(word, 10, 62)
	if err != nil || strings.ContainsAny(word, "+-_") || word[0] == '0' && word != "0" {
		return 0, api.ErrForm
	}
	if n > 1e9 {
		return 0, api.ErrRange
	}
	return int(n), api.OK
}

// checkOf is what the document says of a config whose numbers are small.
func checkOf(c api.Config) api.Errno {
	if len(c.Servers) < 1 {
		return api.ErrLack
	}
	if len(c.Servers) > 16 {
		return api.ErrFull
	}
	seen := map[int]bool{}
	for _, s := range c.Servers {
		if s < 1 || s > 65535 {
			return api.ErrRange
		}
		if seen[s] {
			return api.ErrTwice
		}
		seen[s] = true
	}
	switch {
	case c.Quorum < 1, c.Quorum > len(c.Servers), c.Least < 4, c.Least > 1024, c.Most < 4, c.Most > 1024, c.Least > c.Most,
		c.Delay < 1, c.Delay+2000 > c.Least*1000, c.Slew < 1, c.Slew > 500:
		return api.ErrRange
	}
	return api.OK
}

// parseOf is what the document says of a text that Lines takes, and whose numbers have at most 18 decimals.
func parseOf(text string) (api.Config, int, api.Errno) {
	var c api.Config
	places := map[string][]*int{"quorum": {&c.Quorum}, "poll": {&c.Least, &c.Most}, "delay": {&c.Delay}, "slew": {&c.Slew}, "server": {new(int)}}
	seen := map[string]bool{}
	for i, l := range strings.Split(text, "\n") {
		words := strings.Fields(strings.Split(l, "#")[0])
		if len(words) == 0 {
			continue
		}
		into, ok := places[words[0]]
		if !ok {
			return api.Config{}, i + 1, api.ErrKind
		}
		if len(words) != 1+len(into) {
			return api.Config{}, i + 1, api.ErrForm
		}
		key := words[0]
		for j, w := range words[1:] {
			n, e := number(w)
			if e != api.OK {
				return api.Config{}, i + 1, e
			}
			*into[j] = n
			if words[0] == "server" {
				key += " " + w
			}
		}
		if seen[key] {
			return api.Config{}, i + 1, api.ErrTwice
		}
		seen[key], seen[words[0]] = true, true
		if words[0] == "server" {
			if c.Servers = append(c.Servers, *into[0]); len(c.Servers) > 16 {
				return api.Config{}, i + 1, api.ErrFull
			}
		}
	}
	for word := range places {
		if !seen[word] {
			return api.Config{}, 0, api.ErrLack
		}
	}
	if e := checkOf(c); e != api.OK {
		return api.Config{}, 0, e
	}
	return c, 0, api.OK
}

// draws hands out numbers below a bound, the same ones at each run.
func draws(seed uint64) func(below int) int {
	x := seed*2685821657736338717 + 1442695040888963407
	return func(below int) int {
		x ^= x << 13
		x ^= x >> 7
		x ^= x << 17
		return int(x >> 11 % uint64(below))
	}
}

// anyConfig is a config, most of the time one that may be.
func anyConfig(draw func(below int) int) api.Config {
	var c api.Config
	for range 1 + draw(16) {
		if s := 1 + draw(65535); !slices.Contains(c.Servers, s) {
			c.Servers = append(c.Servers, s)
		}
	}
	c.Quorum = 1 + draw(len(c.Servers))
	c.Least = 4 + draw(1021)
	c.Most = c.Least + draw(1025-c.Least)
	c.Delay = 1 + draw(1000*c.Least-2000)
	c.Slew = 1 + draw(500)
	return c
}

// P6.4: a config is parsed of its text; its text, parsed, is it.
func TestThereAndBack(t *testing.T) {
	for seed := range uint64(5000) {
		c := anyConfig(draws(seed))
		wantCheck(t, c, api.OK)
		text, _ := Print(c)
		wantConfig(t, text, c)
		back, _, _ := Parse(text)
		if !Same(back, c) {
			t.Errorf("%v: %v", c, back)
		}
		if again, e := Print(back); again != text || e != api.OK {
			t.Errorf("%q: %q %v", text, again, e)
		}
	}
}

// lineOf is a line of a config's text, or nearly one.
func lineOf(draw func(below int) int) string {
	number := func() string {
		row := []string{"0", "1", "2", "3", "4", "5", "7", "16", "500", "501", "1000", "1024", "1025", "2000", "2001", "65535", "65536", "1000000000", "1000000001", "01", "x", "-1"}
		if draw(3) > 0 {
			return row[1+draw(7)]
		}
		return row[draw(len(row))]
	}
	words := []string{"server", "server", "server", "quorum", "poll", "delay", "slew", "Server", ""}
	line := words[draw(len(words)-draw(3))]
	count := 1
	if line == "poll" {
		count = 2
	}
	if draw(30) == 0 {
		count = draw(4)
	}
	for range count {
		line += " " + number()
	}
	if draw(6) == 0 {
		line += []string{"#", " # 1", "\t", " "}[draw(4)]
	}
	return line
}

// P6.2, P6.4: texts of all kinds, held against the document's words; what is parsed may be.
func TestManyTexts(t *testing.T) {
	told := map[api.Errno]int{}
	for seed := range uint64(60000) {
		draw := draws(seed)
		var text []string
		if draw(2) == 0 {
			text = strings.Split(textOf(anyConfig(draw)), "\n")
		}
		for range draw(8) {
			text = slices.Insert(text, draw(len(text)+1), lineOf(draw))
		}
		for i := range text {
			if j := draw(len(text)); draw(2) == 0 {
				text[i], text[j] = text[j], text[i]
			}
		}
		whole := strings.Join(text, "\n")
		want, n, e := parseOf(whole)
		told[e]++
		if e != api.OK {
			wantWrong(t, whole, n, e)
			continue
		}
		wantConfig(t, whole, want)
		wantCheck(t, want, api.OK)
		printed, _ := Print(want)
		wantConfig(t, printed, want)
	}
	for _, e := range []api.Errno{api.OK, api.ErrKind, api.ErrForm, api.ErrRange, api.ErrTwice, api.ErrFull, api.ErrLack} {
		if told[e] < 20 {
			t.Errorf("only %d texts of %v", told[e], e)
		}
	}
}

// P6.1: configs of all kinds, held against the document's words.
func TestManyConfigs(t *testing.T) {
	told := map[api.Errno]int{}
	for seed := range uint64(60000) {
		draw := draws(seed)
		c := anyConfig(draw)
		for range draw(3) {
			at := draw(len(c.Servers) + 1)
			c.Servers = slices.Insert(c.Servers, at, []int{0, -1, 65536, c.Servers[0], c.Servers[len(c.Servers)-1], 1, 65535}[draw(7)])
		}
		if draw(3) == 0 {
			into := []*int{&c.Quorum, &c.Least, &c.Most, &c.Delay, &c.Slew}[draw(5)]
			*into = []int{-1, 0, 1, 3, 4, 16, 17, 500, 501, 1024, 1025, 2000, 2001, 1022000, 1022001}[draw(15)]
		}
		want := checkOf(c)
		told[want]++
		wantCheck(t, c, want)
	}
	for _, e := range []api.Errno{api.OK, api.ErrFull, api.ErrRange, api.ErrTwice} {
		if told[e] < 100 {
			t.Errorf("only %d configs of %v", told[e], e)
		}
	}
}

// wantSame holds Same against a bool, both ways round.
func wantSame(t *testing.T, a, b api.Config, want bool) {
	t.Helper()
	if Same(a, b) != want || Same(b, a) != want {
		t.Errorf("%v, %v: %v %v, want %v", a, b, Same(a, b), Same(b, a), want)
	}
	if !Same(a, a) || !Same(b, b) {
		t.Errorf("%v or %v is not what it is", a, b)
	}
}

// P6.3
func TestSame(t *testing.T) {
	wantSame(t, good(), good(), true)
	for _, n := range []int{-1, 0, 1, 3, 17, 999, 501, math.MinInt, math.MaxInt, 1<<32 + 2, 1<<32 + 4, 1<<32 + 16} {
		for _, change := range []func(c *api.Config){
			func(c *api.Config) { c.Quorum = n }, func(c *api.Config) { c.Least = n }, func(c *api.Config) { c.Most = n },
			func(c *api.Config) { c.Delay = n }, func(c *api.Config) { c.Slew = n },
			func(c *api.Config) { c.Servers[0] = n }, func(c *api.Config) { c.Servers[1] = n + 100 },
		} {
			wantSame(t, with(change), good(), false)
			wantSame(t, with(change), with(change), true)
		}
	}
	// Numbers that have changed places are others.
	wantSame(t, with(func(c *api.Config) { c.Least, c.Most = c.Most, c.Least }), good(), false)
	wantSame(t, with(func(c *api.Config) { c.Delay, c.Slew = c.Slew, c.Delay }), good(), false)
	wantSame(t, with(func(c *api.Config) { c.Quorum, c.Least = c.Least, c.Quorum }), good(), false)
}

// P6.3, rule 4: the servers, in their order; an empty list is nil or not.
func TestSameServers(t *testing.T) {
	lists := [][]int{{}, {7}, {3}, {7, 3}, {3, 7}, {7, 7}, {7, 3, 7}, {7, 3, 0}, {0, 7, 3}, {0}, {0, 0}, {-1}, row(1, 16), row(1, 17), row(0, 16), {math.MinInt}, {math.MaxInt}}
	for i, a := range lists {
		for j, b := range lists {
			wantSame(t, with(func(c *api.Config) { c.Servers = a }), with(func(c *api.Config) { c.Servers = slices.Clone(b) }), i == j)
		}
	}
	none := with(func(c *api.Config) { c.Servers = nil })
	wantSame(t, none, with(func(c *api.Config) { c.Servers = []int{} }), true)
	wantSame(t, none, with(func(c *api.Config) { c.Servers = make([]int, 0, 9) }), true)
	wantSame(t, none, none, true)
	wantSame(t, none, good(), false)
	wantSame(t, api.Config{}, api.Config{Servers: []int{}}, true)
	wantSame(t, api.Config{}, good(), false)
	// What lies behind a list's length plays no part.
	long := []int{7, 3, 9}
	other := []int{7, 3, 8}
	wantSame(t, with(func(c *api.Config) { c.Servers = long[:2] }), with(func(c *api.Config) { c.Servers = other[:2] }), true)
}

// Rule 4: what lies behind a list's length is neither read nor written.
func TestBehindTheLength(t *testing.T) {
	memory := []int{7, 3, 7, 0, -1}
	c := with(func(c *api.Config) { c.Servers = memory[:2] })
	wantCheck(t, c, api.OK)
	wantSame(t, c, good(), true)
	if !slices.Equal(memory, []int{7, 3, 7, 0, -1}) {
		t.Error(memory)
	}
	many := row(1, 40)
	wantCheck(t, servers(many[:16]...), api.OK)
	if !slices.Equal(many, row(1, 40)) {
		t.Error(many)
	}
}

// Rules 3, 4, P2: what a caller changes in a config changes no later answer, nor another one.
func TestAnswersShareNothing(t *testing.T) {
	first, _, _ := Parse(goodText)
	second, _, _ := Parse(goodText)
	first.Servers[0], first.Quorum, first.Slew = 99, 0, 0
	behind := first.Servers[:cap(first.Servers)]
	for i := range behind {
		behind[i] = -5
	}
	if !equal(second, good()) {
		t.Errorf("another answer is now %v", second)
	}
	wantConfig(t, goodText, good())

	handed := good()
	text, _ := Print(handed)
	Same(handed, second)
	Check(handed)
	handed.Servers[0], handed.Delay = 99, 1
	if text != goodText {
		t.Errorf("%q", text)
	}
	wantConfig(t, goodText, good())
	wantCheck(t, good(), api.OK)
	wantCheck(t, handed, api.OK)
	// A refused call leaves nothing behind.
	wantWrong(t, goodText+"what", 7, api.ErrKind)
	wantWrong(t, "server 9\nquorum 1", 0, api.ErrLack)
	wantCheck(t, servers(5, 5), api.ErrTwice)
	wantConfig(t, goodText, good())
}

// Rule 6: calls may be made by many goroutines at a time.
func TestManyAtATime(t *testing.T) {
	shared := good()
	var all sync.WaitGroup
	for range 8 {
		all.Go(func() {
			for range 200 {
				wantConfig(t, goodText, shared)
				wantWrong(t, goodText+"slew 1", 7, api.ErrTwice)
				wantCheck(t, shared, api.OK)
				wantSame(t, shared, good(), true)
			}
		})
	}
	all.Wait()
}

// What a word does is a closure in a map: each config's words do it to that config alone.
func TestWordsOf(t *testing.T) {
	var a, b api.Config
	ofA, ofB := wordsOf(&a), wordsOf(&b)
	if len(ofA) != 5 || len(ofB) != 5 {
		t.Fatal(len(ofA), len(ofB))
	}
	for word, behind := range five() {
		if e := ofA[word](behind, false); e != api.OK {
			t.Error(word, e)
		}
		if e := ofA[word](behind, true); e != api.ErrTwice {
			t.Error(word, e)
		}
		if e := ofA[word](nil, true); e != api.ErrForm {
			t.Error(word, e)
		}
	}
	if !equal(a, api.Config{Servers: []int{8}, Quorum: 1, Least: 5, Most: 6, Delay: 1, Slew: 1}) {
		t.Error(a)
	}
	if !nothing(b) {
		t.Error(b)
	}
	// A server may be told again, if its address is another.
	if e := ofA["server"]([]string{"9"}, true); e != api.OK || !slices.Equal(a.Servers, []int{8, 9}) {
		t.Error(a, e)
	}
}
