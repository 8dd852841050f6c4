package req_test

import (
	"strings"
	"testing"

	"tallboy/api"
	"tallboy/req"
)

// blanks part words.
var blanks = []string{" ", "\t", "\x00", "  ", "\t\t", "\x00\x00", " \t\x00", "\x00 \t \t"}

// wrongLines have no Words: quotes that are not closed, or closed ones with a byte behind them that is no blank.
var wrongLines = []string{
	"\"", "'", "\"a", "'a", "a\"", "a'", "a\"b", "a'b", "\"a'", "'a\"", "\"\"\"", "'''", "\"a b", "'a b", "a \"", "a '", "\"a\" \"", "'a' '", "\"a\" 'b", "\"\\", "'\\", "\"a\\", "'a\\", "\"\\\"", "'\\'", "\"a\\\"", "'a\\'", "\"a\\\\\\\"", "'a\\\\'", "'\\\\'", "\"\x00", "' ", "a \"b c", "\"\\\\\"\"", "\"a\\\" b", "'a\\' b",
	"\"a\"b", "'a'b", "\"\"a", "''a", "\"a\"\"b\"", "'a''b'", "\"a\"'b'", "'a'\"b\"", "\"\"\"\"", "''''", "''\"\"", "\"a\"\\", "'a'\\", "'a'\\ b", "\"a\"\\n", "\"a\"\r", "'a'\r", "'a'\n", "'a'\x0b", "'a'\x0c", "'a'\xa0", "'a'\u00a0", "\"a\"\xff", "\"a\"\\\"b\"", "'a'\\'b'", "a\"b\"c", "a'b'c", "a \"b\"c d", "\"a\"b\"", "'a'*", "'a'$", "'a'-",
}

// goodLines tells the words of lines.
func goodLines() map[string][]string {
	l := map[string][]string{
		"a":         {"a"},
		"a b":       {"a", "b"},
		"a  b ":     {"a", "b"},
		"get a\xff": {"get", "a\xff"},
		// What parts no words.
		"a\rb": {"a\rb"}, "a\nb": {"a\nb"}, "\r": {"\r"}, "\n": {"\n"}, "\r\n": {"\r\n"}, "a\x0bb\x0cc": {"a\x0bb\x0cc"}, "a\u00a0b\u0085c": {"a\u00a0b\u0085c"}, "a\xa0b\x85c\x80": {"a\xa0b\x85c\x80"}, "a,b;c": {"a,b;c"}, "a\x01b\x1f\x7f": {"a\x01b\x1f\x7f"}, "*1 $1": {"*1", "$1"},
		// Quotes: alone, empty, in a row, in the midst, blanks and the other kind in them.
		"\"\"": {""}, "''": {""}, "\"\" ''": {"", ""}, "'' \"\" ''": {"", "", ""}, "a\"\"": {"a"}, "a''": {"a"}, "\"a b\" c": {"a b", "c"}, "'a b' c": {"a b", "c"}, "a\"b c\"": {"ab c"}, "a'b c'": {"ab c"}, "'a\"b'": {"a\"b"}, "\"a'b\"": {"a'b"}, "\"''\"": {"''"}, "'\"\"'": {"\"\""}, "\"a\" 'b' c": {"a", "b", "c"}, "x\"a\" y'b'": {"xa", "yb"}, "\" \"": {" "}, "'\t\x00 '": {"\t\x00 "}, "\"\t\x00 \"": {"\t\x00 "}, "\"\r\n\"": {"\r\n"}, "'\r\n'": {"\r\n"}, "\"\xff\u00e9\"": {"\xff\u00e9"}, "'\xff\u00e9'": {"\xff\u00e9"},
		// Pairs in quotes of each kind.
		"\"\\n\\r\\t\\\"\\\\\"": {"\n\r\t\"\\"}, "\"\\a\\b\\0\\x41\\'\\N\\ \"": {"ab0x41'N "}, "\"\\\x00\\\xff\\\r\\\n\\\t\"": {"\x00\xff\r\n\t"}, "\"\\\u00e9\"": {"\u00e9"}, "\"\\\\n\"": {"\\n"}, "\"\\\\\\n\"": {"\\\n"}, "\"\\\\\\\\\"": {"\\\\"}, "\"\\\"\"": {"\""}, "\"a\\\" b\" c": {"a\" b", "c"},
		"'\\n\\r\\t\\\"\\\\ '": {"\\n\\r\\t\\\"\\\\ "}, "'\\''": {"'"}, "'a\\'b'": {"a'b"}, "'\\'\\''": {"''"}, "'\\\\''": {"\\'"}, "'\\\\\\''": {"\\\\'"}, "'\\\\a'": {"\\\\a"}, "'a\\ b'": {"a\\ b"}, "'\\\"'": {"\\\""}, "'\\\xff'": {"\\\xff"}, "'a\\' b' c": {"a' b", "c"},
		// A backslash outside of quotes is itself.
		"\\": {"\\"}, "a\\": {"a\\"}, "\\a": {"\\a"}, "a\\b": {"a\\b"}, "\\n": {"\\n"}, "\\\\": {"\\\\"}, "a\\ b": {"a\\", "b"}, "\\ ": {"\\"}, "\\\"a\"": {"\\a"}, "\\'a'": {"\\a"}, "\\\"\\n\"": {"\\\n"}, "\\''": {"\\"}, "\\'\\''": {"\\'"},
	}
	for x := range 256 {
		y := string([]byte{byte(x)})
		if x == '"' || x == '\'' {
			continue
		}
		if isBlank(y) {
			l[y], l["a"+y+"b"] = nil, []string{"a", "b"}
		} else {
			l[y], l["a"+y+"b"] = []string{y}, []string{"a" + y + "b"}
		}
		if x != '\\' {
			l["'"+y+"'"], l["\""+y+"\""], l["'\\"+y+"'"] = []string{y}, []string{y}, []string{"\\" + y}
		}
		if !strings.Contains("nrt", y) {
			l["\"\\"+y+"\""] = []string{y}
		}
	}
	return l
}

func isBlank(y string) bool {
	return y == " " || y == "\t" || y == "\x00"
}

func TestWordsOfLines(t *testing.T) {
	wantWords(t, "")
	for line, words := range goodLines() {
		wantWords(t, line, words...)
		for _, x := range blanks {
			wantWords(t, x+line, words...)
			wantWords(t, line+x, words...)
			wantWords(t, x+line+x, words...)
			wantWords(t, "x"+x+line+x+"'y'", append(append([]string{"x"}, words...), "y")...)
		}
	}
}

func TestWordsOfBlanks(t *testing.T) {
	for _, x := range blanks {
		wantWords(t, x)
		for _, y := range blanks {
			wantWords(t, x+y)
			wantWords(t, x+"a"+y, "a")
			wantWords(t, x+"a"+y+"bc"+x, "a", "bc")
			wantWords(t, "'a'"+x+"\"b\""+y+"''", "a", "b", "")
			wantWords(t, "'"+x+"'"+y+"\""+x+"\"", x, x)
			wantWords(t, "\"\\"+x+"\"", x)
			wantWords(t, "'\\"+x+"'", "\\"+x)
		}
	}
}

func TestWordsBehindQuotes(t *testing.T) {
	for _, quoted := range []string{"\"a\"", "'a'", "\"\"", "''", "x'a'", "x\"\"", "\"\\\"\"", "'\\''"} {
		if _, ok := req.Words(quoted); !ok {
			t.Fatalf("P19.2: Words(%q) is none", quoted)
		}
		for x := range 256 {
			y := string([]byte{byte(x)})
			for _, more := range []string{"", "b", " ", " b"} {
				if l, ok := req.Words(quoted + y + more); ok != isBlank(y) || !ok && len(l) > 0 {
					t.Errorf("P19.2: Words(%q): %s, %v", quoted+y+more, show(l), ok)
				}
			}
		}
	}
}

func TestWordsOfWrongLines(t *testing.T) {
	for _, line := range wrongLines {
		wantNoWords(t, line)
		for _, x := range blanks {
			wantNoWords(t, x+line)
			wantNoWords(t, "a"+x+line)
			wantNoWords(t, "'a'"+x+"b"+x+line)
		}
	}
}

func TestWordsCounts(t *testing.T) {
	for _, word := range []string{"a", "''", "\"\"", "'a b'", "x\"y\""} {
		one, _ := req.Words(word)
		for _, x := range blanks {
			for n := api.MaxArgs - 1; n <= api.MaxArgs+2; n++ {
				line := strings.Repeat(word+x, n)
				for _, s := range []string{line, x + line, strings.TrimSuffix(line, x)} {
					if n > api.MaxArgs {
						wantNoWords(t, s)
						continue
					}
					wantWords(t, s, strings.Split(strings.Repeat(one[0]+"|", n), "|")[:n]...)
				}
			}
		}
	}
	wantNoWords(t, strings.Repeat("a ", 100000))
	wantNoWords(t, strings.Repeat("a ", api.MaxArgs)+"'")
	wantNoWords(t, strings.Repeat("a ", api.MaxArgs)+"b'")
	wantWords(t, strings.Repeat(" ", 100000))
}

func TestWordsOfGreatLines(t *testing.T) {
	// A line is of any length here: MaxInline bounds what Next takes.
	many := strings.Repeat("x\\", 100000) + "x"
	bare := strings.ReplaceAll(many, "\\", "")
	wantWords(t, many, many)
	wantWords(t, "'"+many+"' \""+many+"\" y"+many, many, bare, "y"+many)
	wantNoWords(t, "'"+many)
	wantNoWords(t, "\""+many)
}
