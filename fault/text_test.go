package fault_test

import (
	"math"
	"strings"
	"testing"

	"tallboy/api"
	"tallboy/fault"
)

// told is the chapter's table, with CMD where it has it.
func told() map[api.Code]string {
	return map[api.Code]string{
		api.ErrSyntax:    "ERR syntax error",
		api.ErrArity:     "ERR wrong number of arguments for 'CMD' command",
		api.ErrUnknown:   "ERR unknown command 'CMD'",
		api.ErrType:      "WRONGTYPE Operation against a key holding the wrong kind of value",
		api.ErrInt:       "ERR value is not an integer or out of range",
		api.ErrOver:      "ERR increment or decrement would overflow",
		api.ErrNoKey:     "ERR no such key",
		api.ErrIndex:     "ERR index out of range",
		api.ErrRange:     "ERR value is out of range",
		api.ErrBit:       "ERR bit is not an integer or out of range",
		api.ErrLong:      "ERR string exceeds maximum allowed size",
		api.ErrExpire:    "ERR invalid expire time in 'CMD' command",
		api.ErrCursor:    "ERR invalid cursor",
		api.ErrSame:      "ERR source and destination objects are the same",
		api.ErrHashInt:   "ERR hash value is not an integer",
		api.ErrProto:     "ERR Protocol error",
		api.ErrNested:    "ERR MULTI calls can not be nested",
		api.ErrNoExec:    "ERR EXEC without MULTI",
		api.ErrNoDiscard: "ERR DISCARD without MULTI",
		api.ErrWatch:     "ERR WATCH inside MULTI is not allowed",
		api.ErrAborted:   "EXECABORT Transaction discarded because of previous errors.",
		api.ErrBadProto:  "NOPROTO unsupported protocol version",
		api.ErrFull:      "ERR too much",
		api.ErrForm:      "ERR bad form",
		api.ErrOffset:    "ERR offset is out of range",
	}
}

func TestTextOfEachCode(t *testing.T) {
	table := told()
	if len(table) != 25 {
		t.Fatalf("the table has %d codes", len(table))
	}
	for c := api.ErrSyntax; c <= api.ErrOffset; c++ {
		for _, name := range []string{"get", "", "CMD", "%s", "two words"} {
			want := strings.ReplaceAll(table[c], "CMD", name)
			if got := fault.Text(c, name); got != want {
				t.Errorf("P1.2: Text(%d, %q): %q, not %q", int(c), name, got, want)
			}
		}
	}
}

func TestTextOfNoCode(t *testing.T) {
	for _, c := range []api.Code{api.OK, -1, -24, api.ErrOffset + 1, 99, 256 + api.ErrSyntax, 1<<32 + api.ErrSyntax, math.MaxInt, math.MinInt} {
		if got := fault.Text(c, "get"); got != "" {
			t.Errorf("P1.2: Text(%d): %q", int(c), got)
		}
	}
}

func TestNamesInTexts(t *testing.T) {
	forms := map[api.Code][2]string{
		api.ErrArity:   {"ERR wrong number of arguments for '", "' command"},
		api.ErrUnknown: {"ERR unknown command '", "'"},
		api.ErrExpire:  {"ERR invalid expire time in '", "' command"},
	}
	names := map[string]string{
		"":                  "",
		"'":                 "?",
		"it's 'so'":         "it?s ?so?",
		"a\r\nb\tc":         "a??b?c",
		"\x00\x1f \x7e\x7f": "?? ~?",
		"\x80\xff":          "??",
		"\u00e9\u20ac":      "?????",
		"?\"`\\":            "?\"`\\",
		"GeT":               "GeT",
	}
	for c, form := range forms {
		for name, shown := range names {
			if got := fault.Text(c, name); got != form[0]+shown+form[1] {
				t.Errorf("P1.2: Text(%d, %q): %q", int(c), name, got)
			}
		}
	}
}

func TestEachByteOfAName(t *testing.T) {
	for b := range 256 {
		want := string([]byte{byte(b)})
		if b < 32 || b > 126 || b == 39 {
			want = "?"
		}
		if got := fault.Text(api.ErrUnknown, string([]byte{'x', byte(b), 'y'})); got != "ERR unknown command 'x"+want+"y'" {
			t.Errorf("P1.2: byte %d: %q", b, got)
		}
	}
}

func TestLongNamesAreWhole(t *testing.T) {
	long := strings.Repeat("ab'", 100000)
	want := "ERR unknown command '" + strings.Repeat("ab?", 100000) + "'"
	if fault.Text(api.ErrUnknown, long) != want {
		t.Error("P1.2: a long name")
	}
}
