package lex

import (
	"math"
	"slices"
	"strconv"
	"strings"
	"testing"

	"chronobate/api"
)

// line is a Line with its words.
func line(n int, words ...string) Line { return Line{n, words} }

// same tells whether two lists are of the same lines.
func same(a, b []Line) bool {
	return slices.EqualFunc(a, b, func(a, b Line) bool { return a.N == b.N && slices.Equal(a.Words, b.Words) })
}

// shown is a text as it is told of a failed test.
func shown(text string) string {
	if len(text) > 60 {
		return strconv.Quote(text[:60]) + ".."
	}
	return strconv.Quote(text)
}

// wantLines holds what Lines answers against lines.
func wantLines(t *testing.T, text string, lines ...Line) {
	t.Helper()
	got, n, e := Lines(text)
	if !same(got, lines) || n != 0 || e != api.OK {
		t.Errorf("%s: %v %d %v, want %v", shown(text), got, n, e, lines)
	}
}

// wantWrong holds what Lines answers against an error, and the line's number that is told beside it.
func wantWrong(t *testing.T, text string, number int, err api.Errno) {
	t.Helper()
	got, n, e := Lines(text)
	if len(got) != 0 || n != number || e != err {
		t.Errorf("%s: %v %d %v, want %d %v", shown(text), got, n, e, number, err)
	}
}

// some are numbers of 64 bits, the same ones at each run.
func some(n int) []uint64 {
	out := make([]uint64, n)
	x := uint64(88172645463325252)
	for i := range out {
		x ^= x << 13
		x ^= x >> 7
		x ^= x << 17
		out[i] = x
	}
	return out
}

// linesOf is what the document tells of a text, byte by byte.
func linesOf(text string) ([]Line, int, api.Errno) {
	if len(text) > 65536 {
		return nil, 0, api.ErrLong
	}
	var out []Line
	now, word, remark := Line{N: 1}, []byte(nil), false
	endWord := func() {
		if len(word) > 0 {
			now.Words = append(now.Words, string(word))
		}
		word = nil
	}
	endLine := func() {
		endWord()
		if len(now.Words) > 0 {
			out = append(out, now)
		}
		now, remark = Line{N: now.N + 1}, false
	}
	for i := 0; i < len(text); i++ {
		switch b := text[i]; {
		case b == 10:
			endLine()
		case remark:
		case b == '#':
			remark = true
		case b == 9 || b == 32:
			endWord()
		case b < 32 || b > 126:
			return nil, now.N, api.ErrForm
		default:
			word = append(word, b)
		}
	}
	endLine()
	return out, 0, api.OK
}

// The chapter's example.
func TestExamples(t *testing.T) {
	wantLines(t, "a  b # c\n\n 7", line(1, "a", "b"), line(3, "7"))
}

// P5.1: no words, no lines; a line's number counts those without words, too.
func TestLineNumbers(t *testing.T) {
	for _, text := range []string{
		"", " ", "\t", "  \t\t ", "\n", "\n\n\n", " \n\t\n", "#", "##", "# a", " # a b", "#\n#", "\n# a\n \t# b\n", "#a\n\n",
	} {
		wantLines(t, text)
	}
	wantLines(t, "a", line(1, "a"))
	wantLines(t, "a\n", line(1, "a"))
	wantLines(t, "a\n\n", line(1, "a"))
	wantLines(t, "\na", line(2, "a"))
	wantLines(t, "\n\n\na\n", line(4, "a"))
	wantLines(t, "a\nb", line(1, "a"), line(2, "b"))
	wantLines(t, "a\nb\n", line(1, "a"), line(2, "b"))
	wantLines(t, "a\n\nb", line(1, "a"), line(3, "b"))
	wantLines(t, "a\n\n\n\nb\nc\n\nd", line(1, "a"), line(5, "b"), line(6, "c"), line(8, "d"))
	wantLines(t, " \na\n# r\nb # r\n#\n\t\nc", line(2, "a"), line(4, "b"), line(7, "c"))
	wantLines(t, "b\na\nb\na", line(1, "b"), line(2, "a"), line(3, "b"), line(4, "a"))
	wantLines(t, strings.Repeat("\n", 65535)+"a", line(65536, "a"))
}

// P5.1, P5.3: how many blanks or tabs there are, and where, is all one.
func TestBlanks(t *testing.T) {
	for _, blank := range []string{" ", "  ", "      ", "\t", "\t\t\t", " \t", "\t ", " \t \t\t  ", strings.Repeat(" ", 1000)} {
		for _, ahead := range []string{"", blank} {
			for _, behind := range []string{"", blank, blank + "#", blank + "# r r"} {
				wantLines(t, ahead+"one"+behind, line(1, "one"))
				wantLines(t, ahead+"one"+blank+"2"+behind, line(1, "one", "2"))
				wantLines(t, ahead+"one"+blank+"2"+blank+"one"+behind, line(1, "one", "2", "one"))
				wantLines(t, "x\n"+ahead+"one"+blank+"2"+behind+"\n"+ahead+"y", line(1, "x"), line(2, "one", "2"), line(3, "y"))
			}
		}
	}
}

// P5.1, P5.3: what is behind a line's first # is no part of it, and ends with the line.
func TestRemarks(t *testing.T) {
	wantLines(t, "#a\nb", line(2, "b"))
	wantLines(t, "a#b", line(1, "a"))
	wantLines(t, "a#b c", line(1, "a"))
	wantLines(t, "a #b c\nd", line(1, "a"), line(2, "d"))
	wantLines(t, "a b# c # d\ne", line(1, "a", "b"), line(2, "e"))
	wantLines(t, "a#b#c", line(1, "a"))
	wantLines(t, "a##", line(1, "a"))
	wantLines(t, "#a#\n a#\nb#b\n#\nc", line(2, "a"), line(3, "b"), line(5, "c"))
	wantLines(t, "a#\xff\x00\r\x7f\u00e4\u20ac\U0001f550\nb", line(1, "a"), line(2, "b"))
	// A byte that begins a character of more bytes takes none of the next line with it.
	for _, begun := range []string{"\xc3", "\xe2", "\xe2\x82", "\xf0", "\xf0\x9f\x95"} {
		wantLines(t, "a#"+begun+"\nb", line(1, "a"), line(2, "b"))
		wantWrong(t, "a#"+begun+"\nb\x01", 2, api.ErrForm)
		wantWrong(t, "a\n"+begun+"#\nb", 2, api.ErrForm)
		wantWrong(t, "a\n"+begun+"\nb", 2, api.ErrForm)
	}
}

// P5.1: each byte, ahead of a # and behind it, by itself and beside others.
func TestEachByte(t *testing.T) {
	for i := range 256 {
		b := string([]byte{byte(i)})
		wantLines(t, "x\ny #"+b+"\nz", line(1, "x"), line(2, "y"), linesOfByte(i, 3))
		wantLines(t, "#"+b)
		wantLines(t, "#"+b+b+b+b)
		switch {
		case i == 10:
			wantLines(t, b)
			wantLines(t, "x\ny"+b+"z", line(1, "x"), line(2, "y"), line(3, "z"))
		case i == '#':
			wantLines(t, b)
			wantLines(t, "x\ny"+b+"z", line(1, "x"), line(2, "y"))
		case i == 9 || i == 32:
			wantLines(t, b)
			wantLines(t, "x\ny"+b+"z", line(1, "x"), line(2, "y", "z"))
		case 32 < i && i < 127:
			wantLines(t, b, line(1, b))
			wantLines(t, "x\ny"+b+"z", line(1, "x"), line(2, "y"+b+"z"))
			wantLines(t, b+b+" "+b+"#"+b, line(1, b+b, b))
		default:
			wantWrong(t, b, 1, api.ErrForm)
			wantWrong(t, b+"#", 1, api.ErrForm)
			wantWrong(t, "a "+b+" # r", 1, api.ErrForm)
			wantWrong(t, "x\ny"+b+"z", 2, api.ErrForm)
			wantWrong(t, "x\n\n#"+b+"\n y"+b, 4, api.ErrForm)
			wantWrong(t, b+"\nx", 1, api.ErrForm)
			wantWrong(t, "x\n"+b+"\n", 2, api.ErrForm)
		}
	}
}

// linesOfByte is the z behind a remark that ends with byte i: a byte 10 there is one more line.
func linesOfByte(i, n int) Line {
	if i == 10 {
		n++
	}
	return line(n, "z")
}

// P5.1: characters of more than one byte, whole and cut, are wrong ahead of a # and nothing behind it.
func TestCharacters(t *testing.T) {
	for _, c := range []string{
		"\u0080", "\u00e4", "\u07ff", "\u0800", "\u20ac", "\ufffd", "\uffff", "\U00010000", "\U0001f550", "\U0010ffff",
		"\u00a0", "\u2028", "\u0123", "\u010a", "\u0120", "\u0109", "\u0130", // some whose last eight bits are #, 10, a blank, a tab, 0
		"\xc0\x80", "\xc0\x8a", "\xed\xa0\x80", "\xf4\x90\x80\x80", "\xc3", "\xe2\x82", "\xa4", "\xfe\xff",
	} {
		wantWrong(t, c, 1, api.ErrForm)
		wantWrong(t, "a\n\nb"+c+"c # d", 3, api.ErrForm)
		wantWrong(t, "a\n "+c+" \nb", 2, api.ErrForm)
		wantLines(t, "a #"+c+"\nb", line(1, "a"), line(2, "b"))
		wantLines(t, "a\nb #"+c, line(1, "a"), line(2, "b"))
	}
}

// P5.1, rule 2: of two wrong lines the first; nothing of the lines ahead is told beside an error.
func TestFirstWrongLine(t *testing.T) {
	wantWrong(t, "\x01\n\x02", 1, api.ErrForm)
	wantWrong(t, "a\n\x01\nb\n\x02", 2, api.ErrForm)
	wantWrong(t, "a\nb\n\nc \r\nd\xff\n", 4, api.ErrForm)
	wantWrong(t, "a\r\nb\r\n", 1, api.ErrForm)
	wantWrong(t, "# \x01\na # \x01\n\x01 # a\n\x01", 3, api.ErrForm)
	wantWrong(t, "\x01\x02\x03\na", 1, api.ErrForm)
	wantWrong(t, strings.Repeat("a b\n", 1000)+"\x7f", 1001, api.ErrForm)
	wantWrong(t, strings.Repeat("\n", 65535)+"\x00", 65536, api.ErrForm)
}

// P5.1: a text of 65536 bytes is none too long; ErrLong goes ahead of ErrForm.
func TestLongTexts(t *testing.T) {
	const most = 65536
	long := strings.Repeat("a", most)
	wantLines(t, long[1:], line(1, long[1:]))
	wantLines(t, long, line(1, long))
	wantLines(t, strings.Repeat(" ", most))
	wantLines(t, strings.Repeat("#", most))
	wantLines(t, strings.Repeat("\n", most))
	wantWrong(t, long[1:]+"\x7f", 1, api.ErrForm)
	wantWrong(t, long[2:]+"\n\x7f", 2, api.ErrForm)
	wantWrong(t, "\x7f\n"+long[2:], 1, api.ErrForm)
	wantWrong(t, strings.Repeat("\xff", most), 1, api.ErrForm)
	for _, text := range []string{
		long + "a", long + " ", long + "\n", long + "#", long + "\x7f", long + "\xff", "\x7f\n" + long, "\x00" + long,
		strings.Repeat(" ", most+1), strings.Repeat("\n", most+1), strings.Repeat("#", most+1), strings.Repeat("\xff", most+1),
		strings.Repeat("\u00e4", most/2) + "#", "#" + strings.Repeat("\u20ac", most/3+1), long + long,
	} {
		wantWrong(t, text, 0, api.ErrLong)
	}
	// Bytes are counted, not characters.
	wantLines(t, "##"+strings.Repeat("\u00e4", most/2-1))
	wantWrong(t, "###"+strings.Repeat("\u00e4", most/2-1), 0, api.ErrLong)

	got, n, e := Lines(strings.Repeat("a b\n", most/4))
	if len(got) != most/4 || n != 0 || e != api.OK {
		t.Fatal(len(got), n, e)
	}
	for i, l := range got {
		if !same([]Line{l}, []Line{line(i+1, "a", "b")}) {
			t.Fatalf("%d: %v", i, l)
		}
	}
}

// P5.1, P5.3: texts of all kinds, held against the document's words byte by byte.
func TestManyTexts(t *testing.T) {
	kinds := []string{" \t\n#ab07", "a \n", "  \t\t\n\n##~!\x7f", "ab \n#\r\xff\xc3\xa4"}
	for i, x := range some(20000) {
		kind, size := kinds[i%len(kinds)], int(x>>40%60)
		text := make([]byte, 0, size)
		for _, y := range some(i%37 + size)[i%37:] {
			text = append(text, kind[(y^x)>>20%uint64(len(kind))])
		}
		lines, number, err := linesOf(string(text))
		if err != api.OK {
			wantWrong(t, string(text), number, err)
			continue
		}
		wantLines(t, string(text), lines...)
		plainWords(t, lines)
	}
}

// plainWords fails where a word is empty, or has a blank, a tab or a # (P5.3).
func plainWords(t *testing.T, lines []Line) {
	t.Helper()
	for _, l := range lines {
		if len(l.Words) == 0 {
			t.Errorf("line %d without words", l.N)
		}
		for _, w := range l.Words {
			if w == "" || strings.ContainsAny(w, " \t\n#") {
				t.Errorf("line %d: the word %q", l.N, w)
			}
		}
	}
}

// P5.3: the same words by other blanks, and with other remarks, are told alike.
func TestRemarksAndBlanksPlayNoPart(t *testing.T) {
	plain := "server 7\n\nquorum 3 of 5\nlast"
	want, _, _ := Lines(plain)
	if len(want) != 3 {
		t.Fatal(want)
	}
	for _, blank := range []string{" ", "\t", "   ", "\t \t"} {
		for _, remark := range []string{"", "#", "# and more", "#\xff\r # \x00"} {
			text := strings.ReplaceAll(plain, " ", blank)
			text = blank + strings.ReplaceAll(text, "\n", blank+remark+"\n"+blank) + remark
			wantLines(t, text, want...)
		}
	}
}

// Rule 7 of the language, rule 4 of the document: no two lists share anything, of one answer or of two.
func TestListsShareNothing(t *testing.T) {
	const text = "a b c\nd e f\n\ng h\ni # j\nk l m n o"
	want := []Line{line(1, "a", "b", "c"), line(2, "d", "e", "f"), line(4, "g", "h"), line(5, "i"), line(6, "k", "l", "m", "n", "o")}
	for i := range want {
		got, _, _ := Lines(text)
		other, _, _ := Lines(text)
		list := append(got[i].Words, "x", "y", "z", "x", "y", "z")
		for j := range list {
			list[j] = "changed"
		}
		for j := range got[i].Words {
			got[i].Words[j] = "changed"
		}
		behind := got[i].Words[:cap(got[i].Words)]
		for j := range behind {
			behind[j] = "changed"
		}
		for j := range want {
			if j != i && !same(got[j:j+1], want[j:j+1]) {
				t.Errorf("line %d changed the line %v", i, got[j])
			}
		}
		got = append(got[:i], line(99, "x"))
		got[0].N = 77
		if !same(other, want) {
			t.Errorf("line %d: another answer is now %v", i, other)
		}
		wantLines(t, text, want...)
	}
}

// P5.2
func TestNumber(t *testing.T) {
	for _, c := range []struct {
		word string
		n    int
		e    api.Errno
	}{
		{"0", 0, api.OK}, {"1", 1, api.OK}, {"2", 2, api.OK}, {"3", 3, api.OK}, {"4", 4, api.OK},
		{"5", 5, api.OK}, {"6", 6, api.OK}, {"7", 7, api.OK}, {"8", 8, api.OK}, {"9", 9, api.OK},
		{"10", 10, api.OK}, {"19", 19, api.OK}, {"90", 90, api.OK}, {"100", 100, api.OK}, {"65535", 65535, api.OK},
		{"1234567", 1234567, api.OK}, {"987654321", 987654321, api.OK}, {"123456789", 123456789, api.OK},
		{"999999999", 999999999, api.OK}, {"1000000000", 1000000000, api.OK},
		{"1000000001", 0, api.ErrRange}, {"1000000009", 0, api.ErrRange}, {"1000000010", 0, api.ErrRange},
		{"2000000000", 0, api.ErrRange}, {"9999999999", 0, api.ErrRange}, {"10000000000", 0, api.ErrRange},
		{"2147483647", 0, api.ErrRange}, {"2147483648", 0, api.ErrRange}, {"4294967295", 0, api.ErrRange}, {"4294967296", 0, api.ErrRange}, {"4294967297", 0, api.ErrRange},
		{"9223372036854775807", 0, api.ErrRange}, {"9223372036854775808", 0, api.ErrRange},
		{"18446744073709551615", 0, api.ErrRange}, {"18446744073709551616", 0, api.ErrRange}, {"18446744073709551617", 0, api.ErrRange},
		{"", 0, api.ErrForm}, {"00", 0, api.ErrForm}, {"01", 0, api.ErrForm}, {"000", 0, api.ErrForm}, {"007", 0, api.ErrForm},
		{"01000000001", 0, api.ErrForm}, {"09999999999", 0, api.ErrForm}, {"01000000000", 0, api.ErrForm},
		{"+1", 0, api.ErrForm}, {"-1", 0, api.ErrForm}, {"-0", 0, api.ErrForm}, {"+0", 0, api.ErrForm}, {"+", 0, api.ErrForm}, {"-", 0, api.ErrForm},
		{"1_000", 0, api.ErrForm}, {"1e9", 0, api.ErrForm}, {"1.0", 0, api.ErrForm}, {"0x1", 0, api.ErrForm}, {"0b1", 0, api.ErrForm}, {"0o7", 0, api.ErrForm},
		{"a", 0, api.ErrForm}, {"a1", 0, api.ErrForm}, {"1a1", 0, api.ErrForm}, {"1a", 0, api.ErrForm},
		{" ", 0, api.ErrForm}, {" 1", 0, api.ErrForm}, {"1 1", 0, api.ErrForm}, {"1 ", 0, api.ErrForm}, {"\t1", 0, api.ErrForm}, {"1\n", 0, api.ErrForm},
		{"1#", 0, api.ErrForm}, {"#1", 0, api.ErrForm},
		{"\u0661", 0, api.ErrForm}, {"\uff11", 0, api.ErrForm}, {"1\u0661", 0, api.ErrForm}, {"\u0131", 0, api.ErrForm}, {"\U00010031", 0, api.ErrForm},
		{"9999999999a", 0, api.ErrForm}, {"1000000001 ", 0, api.ErrForm}, {"a9999999999", 0, api.ErrForm}, {"99999999990000000000-", 0, api.ErrForm},
	} {
		if n, e := Number(c.word); n != c.n || e != c.e {
			t.Errorf("%q: %d %v, want %d %v", c.word, n, e, c.n, c.e)
		}
	}
}

// P5.2: each byte that is no decimal is wrong, wherever it stands.
func TestNumberEachByte(t *testing.T) {
	for i := range 256 {
		b := string([]byte{byte(i)})
		words := []string{b, "1" + b, b + "1", "1" + b + "2", "12345678" + b, "9999999999" + b, b + "9999999999", "99999" + b + "99999", "0" + b}
		for _, w := range words {
			n, e := Number(w)
			wantN, wantE := numberOf(w)
			if n != wantN || e != wantE {
				t.Errorf("%q: %d %v, want %d %v", w, n, e, wantN, wantE)
			}
		}
	}
}

// numberOf is what the document tells of a word that is no longer than 18 bytes.
func numberOf(word string) (int, api.Errno) {
	if strings.Trim(word, "0123456789") != "" || word == "" || strings.HasPrefix(word, "0") && len(word) > 1 {
		return 0, api.ErrForm
	}
	n, _ := strconv.Atoi(word)
	if n > 1e9 {
		return 0, api.ErrRange
	}
	return n, api.OK
}

// P5.2: no word is so long that it is taken for another number; the form goes ahead of the range.
func TestNumberOfLongWords(t *testing.T) {
	for size := 10; size <= 200; size++ {
		for _, first := range "123456789" {
			for _, d := range []string{"0", "1", "5", "9"} {
				word := string(first) + strings.Repeat(d, size)
				if n, e := Number(word); n != 0 || e != api.ErrRange {
					t.Errorf("%s: %d %v", word, n, e)
				}
				for _, wrong := range []string{word + "a", word + " ", "0" + word, word + "\xff", "-" + word} {
					if n, e := Number(wrong); n != 0 || e != api.ErrForm {
						t.Errorf("%s: %d %v", wrong, n, e)
					}
				}
			}
		}
	}
	long := strings.Repeat("7", 1<<20)
	if n, e := Number(long); n != 0 || e != api.ErrRange {
		t.Error("long", n, e)
	}
	for _, wrong := range []string{long + "x", long + "\xff", "0" + long, strings.Repeat("0", 1<<20)} {
		if n, e := Number(wrong); n != 0 || e != api.ErrForm {
			t.Error("long and wrong", n, e)
		}
	}
}

// P5.2
func TestText(t *testing.T) {
	for n, want := range map[int]string{
		0: "0", 1: "1", 9: "9", 10: "10", 99: "99", 100: "100", 65535: "65535", 1020304050: "", 102030405: "102030405",
		999999999: "999999999", 1000000000: "1000000000", 1000000001: "", 9999999999: "", -1: "", -7: "", -1000000000: "",
		math.MinInt: "", math.MinInt + 1: "", math.MaxInt: "", math.MaxInt - 1: "", math.MinInt32: "", math.MaxInt32: "", 1 << 32: "", 1<<32 + 7: "",
	} {
		if got := Text(n); got != want {
			t.Errorf("%d: %q, want %q", n, got, want)
		}
	}
}

// P5.2: there and back.
func TestThereAndBack(t *testing.T) {
	numbers := []int{0, 1, 9, 10, 11, 99, 100, 101, 999999999, 1000000000}
	for i := range 2000 {
		numbers = append(numbers, i, 1000000000-i)
	}
	for _, x := range some(20000) {
		numbers = append(numbers, int(x%1000000001), int(x%1000000001>>(x>>60*2)))
	}
	for _, n := range numbers {
		word := Text(n)
		if word != strconv.Itoa(n) {
			t.Fatalf("%d: %q", n, word)
		}
		if back, e := Number(word); back != n || e != api.OK {
			t.Fatalf("%d: %q: %d %v", n, word, back, e)
		}
	}
	for i, x := range some(20000) {
		word := strconv.FormatUint(x>>(i%64), 10)
		if i%3 == 0 {
			word = "0" + word
		}
		if n, e := Number(word); e == api.OK && Text(n) != word {
			t.Fatalf("%q: %d: %q", word, n, Text(n))
		}
	}
}

// P5.1, P5.2: a word of a line that is a number's text is that number.
func TestNumbersOfLines(t *testing.T) {
	lines, _, e := Lines("poll\t4 1024 # seconds\n")
	if e != api.OK || len(lines) != 1 || len(lines[0].Words) != 3 {
		t.Fatal(lines, e)
	}
	for i, want := range map[int]int{1: 4, 2: 1024} {
		if n, e := Number(lines[0].Words[i]); n != want || e != api.OK {
			t.Error(i, n, e)
		}
	}
}
