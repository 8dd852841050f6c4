package cmd_test

import (
	"strings"
	"testing"

	"tallboy/cmd"
)

func TestLowerOfEachByte(t *testing.T) {
	for x := range 256 {
		want := byte(x)
		if x >= 65 && x <= 90 {
			want = byte(x + 32)
		}
		from, to := string([]byte{byte(x)}), string([]byte{want})
		for _, y := range [][4]string{{"", "", "", ""}, {"A", "a", "Z", "z"}, {"\xff", "\xff", "\x00", "\x00"}, {"az", "az", "AZ", "az"}} {
			if got := cmd.Lower(y[0] + from + y[2]); got != y[1]+to+y[3] {
				t.Errorf("P20.1: Lower(%q): %q, want %q", y[0]+from+y[2], got, y[1]+to+y[3])
			}
		}
	}
}

func TestLowerOfTexts(t *testing.T) {
	for from, want := range map[string]string{
		"":                           "",
		" ":                          " ",
		"GET":                        "get",
		"get":                        "get",
		"GeT":                        "get",
		"@AZ[`az{":                   "@az[`az{",
		"A":                          "a",
		"Z":                          "z",
		"ABCDEFGHIJKLMNOPQRSTUVWXYZ": "abcdefghijklmnopqrstuvwxyz",
		"abcdefghijklmnopqrstuvwxyz": "abcdefghijklmnopqrstuvwxyz",
		"0123456789":                 "0123456789",
		"\x00\x1f \x7f":              "\x00\x1f \x7f",
		"\xc1\xda\xe1\xfa":           "\xc1\xda\xe1\xfa", // the bytes of A, Z, a and z with their highest bit
		"\xc9\xe9":                   "\xc9\xe9",
		"\u00c9\u00c4\u0130":         "\u00c9\u00c4\u0130", // great letters, but not of A to Z
		"\u212aEYS":                  "\u212aeys",          // the sign of the kelvin is no K
		"\u0391\u042f":               "\u0391\u042f",
		"A\xffB\xc3":                 "a\xffb\xc3", // not UTF-8
		"SeT\r\nA":                   "set\r\na",
	} {
		if got := cmd.Lower(from); got != want {
			t.Errorf("P20.1: Lower(%q): %q, want %q", from, got, want)
		}
		if got := cmd.Lower(cmd.Lower(from)); got != want {
			t.Errorf("P20.1: Lower of Lower(%q): %q, want %q", from, got, want)
		}
	}
}

func TestLowerOfEachPair(t *testing.T) {
	for x := range 256 {
		for y := range 256 {
			from := string([]byte{byte(x), byte(y)})
			if got := cmd.Lower(from); got != small(from) {
				t.Fatalf("P20.1: Lower(%q): %q, want %q", from, got, small(from))
			}
		}
	}
}

func TestLowerOfLongTexts(t *testing.T) {
	for _, n := range []int{31, 32, 33, 63, 64, 65, 4096, 4097, 65536, 1 << 20} {
		from := strings.Repeat("@AzZ[\x80\xc1", n)
		if got := cmd.Lower(from); got != strings.Repeat("@azz[\x80\xc1", n) {
			t.Errorf("P20.1: Lower of %d bytes", len(from))
		}
	}
}
