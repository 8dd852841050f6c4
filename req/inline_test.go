package req_test

import (
	"strings"
	"testing"

	"tallboy/api"
	"tallboy/req"
)

func TestInline(t *testing.T) {
	for line, words := range map[string][]string{
		"PING":                {"PING"},
		"get a":               {"get", "a"},
		"  a \t b\x00c  ":     {"a", "b", "c"},
		"set a \"b c\" 'd e'": {"set", "a", "b c", "d e"},
		"\"\"":                {""},
		"a\r b":               {"a\r", "b"},
		"\ra":                 {"\ra"},
		"a\rb\rc":             {"a\rb\rc"},
		"$1":                  {"$1"},
		"+OK":                 {"+OK"},
		"-1":                  {"-1"},
		":1":                  {":1"},
		" *1":                 {"*1"},
		"a*1":                 {"a*1"},
		"\"*\"":               {"*"},
		"\xff\xfe \u00e9":     {"\xff\xfe", "\u00e9"},
		"\"\\r\\n\"":          {"\r\n"},
		"\"a\r\"":             {"a\r"},
		"":                    nil,
		" ":                   nil,
		"\t \x00":             nil,
	} {
		wantWhole(t, line+"\r\n", words...)
		wantWhole(t, line+"\n", words...)
	}
	// One 13 alone is of the end.
	wantWhole(t, "a\r\r\n", "a\r")
	wantWhole(t, "a\r\r\r\n", "a\r\r")
	wantWhole(t, "\r\r\n", "\r")
	wantWhole(t, "a \r\r\n", "a", "\r")
	wantWhole(t, "'a' \r\n", "a")
	wantWhole(t, "'a'\r\n", "a")
	wantProtoAt(t, "'a'\r\r\n", 6)
	wantProtoAt(t, "'a\r\n", 4)
	// A 10 is no part of a word, in quotes neither.
	wantProtoAt(t, "'a\nb'\n", 3)
	wantProtoAt(t, "\"a\\\n\"\r\n", 4)
	wantProtoAt(t, "\"a\\\r\n\"\r\n", 5)
	// What is there behind the first 10 is of the next one.
	wantNext(t, "P19.1", "a\nb\r\nc", []string{"a"}, 2, api.OK)
	wantNext(t, "P19.1", "\n'a\n", nil, 1, api.OK)
}

func TestInlineOfNoWords(t *testing.T) {
	for _, line := range wrongLines {
		if strings.Contains(line, "\n") {
			continue // it ends there
		}
		for _, end := range []string{"\n", "\r\n"} {
			if strings.HasSuffix(line+end, "\r\n") && end == "\n" {
				continue // its 13 is of the end
			}
			from := "x " + line + end
			wantPart(t, from[:len(from)-1])
			wantProto(t, from)
			wantProto(t, line+end)
		}
	}
}

func TestInlineLengths(t *testing.T) {
	const most = api.MaxInline
	for _, fill := range []string{"a", "\r", "\t"} {
		full := strings.Repeat(fill, most)
		words := []string{full}
		if fill == "\t" {
			words = nil
		}
		wantPart(t, full)
		wantPart(t, full[1:])
		wantProto(t, full+fill)
		wantNext(t, "P19.1", full+"\r", nil, 0, api.ErrProto)
		wantNext(t, "P19.1", full+fill+"\n", nil, 0, api.ErrProto)
		wantNext(t, "P19.1", full+strings.Repeat(fill, 5000)+"\n", nil, 0, api.ErrProto)
		// The 13 stands ahead of the 10, and counts.
		wantNext(t, "P19.1", full+"\r\n", nil, 0, api.ErrProto)
		wantPart(t, full[1:]+"\r")
		if fill != "\r" {
			wantWhole(t, full+"\n", words...)
		}
	}
	full := strings.Repeat("a", most)
	wantWhole(t, full[1:]+"\n", full[1:])
	wantWhole(t, full[1:]+"\r\n", full[1:])
	wantWhole(t, full[2:]+"\r\n", full[2:])
	wantWhole(t, strings.Repeat("\r", most)+"\n", strings.Repeat("\r", most-1))
	// Bytes are counted, not words.
	half := strings.Repeat(" ", most/2-1)
	wantWhole(t, half+"ab"+half+"\n", "ab")
	wantProtoAt(t, strings.Repeat(" ", most)+"a\n", most+1)
	wantProtoAt(t, "'"+strings.Repeat("a", most-1)+"'\n", most+1)
	wantWhole(t, "'"+strings.Repeat("a", most-2)+"'\n", strings.Repeat("a", most-2))
}

func TestInlineCounts(t *testing.T) {
	many := strings.Repeat("a ", api.MaxArgs)
	wantWhole(t, many+"\r\n", strings.Fields(many)...)
	wantWhole(t, many[:2*api.MaxArgs-1]+"\n", strings.Fields(many)...)
	wantPart(t, many+"a")
	wantProto(t, many+"a\r\n")
	wantProto(t, many+"a\n")
	wantProto(t, many+"''\n")
}

func TestInlineOfAnyLine(t *testing.T) {
	for line, words := range goodLines() {
		if strings.Contains(line, "\n") || line != "" && line[0] == '*' || len(line) >= api.MaxInline {
			continue
		}
		wantNext(t, "P19.1", line+"\r\n", words, len(line)+2, api.OK)
		if !strings.HasSuffix(line, "\r") {
			wantNext(t, "P19.1", line+"\n", words, len(line)+1, api.OK)
		}
		if l, ok := req.Words(line); !ok || show(l) != show(words) {
			t.Errorf("P19.2: Words(%q): %s, %v, want %s", line, show(l), ok, show(words))
		}
	}
}
