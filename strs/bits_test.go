package strs_test

import (
	"strconv"
	"strings"
	"testing"

	"tallboy/api"
)

// digits are all bits of a text, one behind the other.
func digits(s string) string {
	var b []byte
	for i := range len(s) {
		for half := 128; half > 0; half /= 2 {
			b = append(b, '0'+byte(int(s[i])/half%2))
		}
	}
	return string(b)
}

// asText is the text with these bits.
func asText(bits string) string {
	var b []byte
	for ; bits != ""; bits = bits[8:] {
		n, err := strconv.ParseUint(bits[:8], 2, 8)
		if err != nil {
			panic(err)
		}
		b = append(b, byte(n))
	}
	return string(b)
}

func TestGetBit(t *testing.T) {
	for _, s := range []string{"", "a", "\x00", "\x80", "\x01", "\xff\x00", "hello", "\x55\xaa\x0f"} {
		p := fresh(t)
		p.text("a", s)
		row := digits(s) + strings.Repeat("0", 20)
		for i := range row {
			p.number(int64(row[i]-'0'), "getbit", "a", strconv.Itoa(i))
			p.number(0, "getbit", "none", strconv.Itoa(i))
		}
		p.number(0, "getbit", "a", "524287")
		p.refused(api.ErrBit, "getbit", "a", "524288")
	}
	p := fresh(t)
	p.text("a", longest[1:]+"\x01")
	p.number(1, "getbit", "a", "524287")
	p.number(0, "getbit", "a", "524286")
}

// noPlaces are words that are no bit's place.
var noPlaces = append([]string{"-1", "-2", "-8", "524288", "524289", "524295", "4294967296", "4294967303", most, least}, noNumbers...)

func TestPlacesThatAreNone(t *testing.T) {
	p := fresh(t)
	p.collect()
	p.timed("a", "hello", 9000)
	p.text("long", longest)
	for _, i := range noPlaces {
		for _, key := range []string{"a", "none", "long", "hash", "set", "list"} {
			p.refused(api.ErrBit, "getbit", key, i)
			for _, b := range []string{"0", "1", "2", "x"} {
				p.refused(api.ErrBit, "setbit", key, i, b)
			}
		}
	}
	p.hasNot("none")
}

func TestBitsThatAreNone(t *testing.T) {
	p := fresh(t)
	p.collect()
	p.timed("a", "hello", 9000)
	for _, b := range append([]string{"-1", "2", "3", "10", "11", "256", "257", "4294967296", "4294967297", most, least}, noNumbers...) {
		for _, key := range []string{"a", "none", "hash", "set", "list"} {
			for _, i := range []string{"0", "7", "8", "524287"} {
				p.refused(api.ErrBit, "setbit", key, i, b)
			}
		}
	}
	p.hasNot("none")
}

// TestSetBit sets each bit of a text, and such as are past its end.
func TestSetBit(t *testing.T) {
	for _, s := range []string{"", "a", "\x00", "\xff\x00\xff", "hello"} {
		for i := range 8*len(s) + 20 {
			for _, b := range []string{"0", "1"} {
				p := fresh(t)
				p.timed("a", s, 9000)
				row := digits(s)
				for len(row) <= i {
					row += "00000000"
				}
				p.number(int64(row[i]-'0'), "setbit", "a", strconv.Itoa(i), b)
				p.has("a", asText(row[:i]+b+row[i+1:]))
				p.until("a", 9000)
				p.number(int64(b[0]-'0'), "getbit", "a", strconv.Itoa(i))
				p.number(int64(b[0]-'0'), "SETBIT", "a", strconv.Itoa(i), b)
			}
		}
	}
}

// TestSetBitOfNothing has a key come to be there, of the bit 0 too.
func TestSetBitOfNothing(t *testing.T) {
	for _, x := range []struct {
		i, b, want string
	}{
		{"0", "0", "\x00"}, {"0", "1", "\x80"}, {"7", "0", "\x00"}, {"7", "1", "\x01"}, {"8", "0", "\x00\x00"}, {"8", "1", "\x00\x80"}, {"17", "1", "\x00\x00\x40"},
		{"524287", "0", strings.Repeat("\x00", api.MaxText)}, {"524287", "1", strings.Repeat("\x00", api.MaxText-1) + "\x01"}, {"524280", "1", strings.Repeat("\x00", api.MaxText-1) + "\x80"}, {"524279", "1", strings.Repeat("\x00", api.MaxText-2) + "\x01"},
	} {
		p := fresh(t)
		p.changes([]string{"a"}, "setbit", "a", x.i, x.b)
		p.has("a", x.want)
		p.endless("a")
		p.number(int64(x.b[0]-'0'), "getbit", "a", x.i)
		p.number(int64(x.b[0]-'0'), "setbit", "a", x.i, "0")
		p.number(0, "setbit", "a", x.i, "0")
		p.number(int64(len(x.want)), "strlen", "a")
	}
}

// TestSetBitThatIsSo changes nothing, unless there are more bytes then.
func TestSetBitThatIsSo(t *testing.T) {
	p := fresh(t)
	p.timed("a", "a", 9000)
	for i, b := range digits("a") {
		p.changes(nil, "setbit", "a", strconv.Itoa(i), string(b))
	}
	p.changes([]string{"a"}, "setbit", "a", "8", "0")
	p.has("a", "a\x00")
	p.changes(nil, "setbit", "a", "8", "0")
	p.changes([]string{"a"}, "setbit", "a", "8", "1")
	p.changes(nil, "setbit", "a", "8", "1")
	p.until("a", 9000)
}

func TestBitCount(t *testing.T) {
	for _, s := range []string{"", "a", "\x00", "\xff", "hello", "\xff\x00\x0f"} {
		p := fresh(t)
		p.text("a", s)
		p.number(int64(strings.Count(digits(s), "1")), "bitcount", "a")
		for a := int64(-7); a <= 7; a++ {
			for b := int64(-7); b <= 7; b++ {
				want := strings.Count(digits(cutOut(s, a, b)), "1")
				p.number(int64(want), "bitcount", "a", strconv.FormatInt(a, 10), strconv.FormatInt(b, 10))
				p.number(0, "bitcount", "none", strconv.FormatInt(a, 10), strconv.FormatInt(b, 10))
			}
		}
		p.number(int64(strings.Count(digits(s), "1")), "bitcount", "a", least, most)
		p.number(0, "bitcount", "a", most, least)
	}
	p := fresh(t)
	p.text("a", strings.Repeat("\xff", api.MaxText))
	p.number(8*api.MaxText, "bitcount", "a")
	p.number(8, "bitcount", "a", "-1", "-1")
}

// TestBitCountWithOneIndex is refused ahead of all else.
func TestBitCountWithOneIndex(t *testing.T) {
	p := fresh(t)
	p.collect()
	p.text("a", "hello")
	for _, i := range append([]string{"0", "-1", "5"}, noNumbers...) {
		for _, key := range []string{"a", "none", "hash", "set", "list"} {
			p.refused(api.ErrSyntax, "bitcount", key, i)
		}
	}
}
