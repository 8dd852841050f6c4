package strs_test

import (
	"strconv"
	"strings"
	"testing"

	"tallboy/api"
)

func TestAppend(t *testing.T) {
	p := fresh(t)
	p.number(0, "append", "a", "")
	p.has("a", "")
	p.number(2, "append", "a", "ab")
	p.number(2, "append", "a", "")
	p.number(5, "APPEND", "a", "c\x00\xff")
	p.has("a", "abc\x00\xff")
	p.number(5, "strlen", "a")
	p.number(3, "append", "none", "xyz")
	p.has("none", "xyz")
}

// TestAppendToTheEnd fills a text to as many bytes as it may have.
func TestAppendToTheEnd(t *testing.T) {
	word := strings.Repeat("w", api.MaxEntry)
	p := fresh(t)
	for n := int64(api.MaxEntry); n <= api.MaxText; n += api.MaxEntry {
		p.number(n, "append", "a", word)
	}
	p.has("a", strings.Repeat("w", api.MaxText))
	p.refused(api.ErrLong, "append", "a", "y")
	p.refused(api.ErrLong, "append", "a", word)
	p.changes(nil, "append", "a", "")
	p.number(api.MaxText, "strlen", "a")
	for _, n := range []int{1, 2, 17, api.MaxEntry - 2, api.MaxEntry - 1} {
		p := fresh(t)
		p.timed("a", longest[n:], 9000)
		p.refused(api.ErrLong, "append", "a", longest[:n+1])
		p.refused(api.ErrLong, "append", "a", word)
		p.number(api.MaxText, "append", "a", longest[:n])
		p.refused(api.ErrLong, "append", "a", "y")
		p.has("a", longest)
		p.until("a", 9000)
	}
}

func TestStrlen(t *testing.T) {
	p := fresh(t)
	for _, n := range []int{0, 1, 2, 44, 45, 4096, 4097, api.MaxText} {
		p.text("a", longest[:n])
		p.number(int64(n), "strlen", "a")
	}
	p.text("a", "\xc3\xa4\x00")
	p.number(3, "strlen", "a")
	p.number(0, "strlen", "none")
}

// TestSetRange lays texts over each place of one.
func TestSetRange(t *testing.T) {
	for _, x := range []struct {
		was, at, s, want string
	}{
		{"hello", "0", "J", "Jello"},
		{"hello", "0", "HELLO", "HELLO"},
		{"hello", "0", "Hello, you", "Hello, you"},
		{"hello", "1", "EL", "hELlo"},
		{"hello", "4", "O", "hellO"},
		{"hello", "4", "O!", "hellO!"},
		{"hello", "5", "!", "hello!"},
		{"hello", "6", "!", "hello\x00!"},
		{"hello", "9", "!?", "hello\x00\x00\x00\x00!?"},
		{"", "0", "x", "x"},
		{"", "3", "x", "\x00\x00\x00x"},
		{"\xff\xff", "1", "\x00", "\xff\x00"},
	} {
		p := fresh(t)
		p.timed("a", x.was, 9000)
		p.number(int64(len(x.want)), "setrange", "a", x.at, x.s)
		p.has("a", x.want)
		p.until("a", 9000)
		if x.was == "" {
			p.number(int64(len(x.want)), "setrange", "none", x.at, x.s)
			p.has("none", x.want)
			p.endless("none")
		}
	}
}

// TestSetRangeOfNothing does nothing, but is refused as the others are.
func TestSetRangeOfNothing(t *testing.T) {
	p := fresh(t)
	p.collect()
	p.timed("a", "hello", 9000)
	p.text("empty", "")
	for _, at := range []string{"0", "2", "5", "6", "65535", "65536", "65537", most} {
		p.changes(nil, "setrange", "a", at, "")
		p.number(5, "setrange", "a", at, "")
		p.changes(nil, "setrange", "none", at, "")
		p.number(0, "setrange", "none", at, "")
		p.hasNot("none")
		p.changes(nil, "setrange", "empty", at, "")
		p.number(0, "setrange", "empty", at, "")
		p.refused(api.ErrType, "setrange", "list", at, "")
	}
	for _, at := range []string{"-1", "-5", least} {
		for _, key := range []string{"a", "none", "empty"} {
			p.refused(api.ErrOffset, "setrange", key, at, "")
			p.refused(api.ErrOffset, "setrange", key, at, "x")
		}
		p.refused(api.ErrType, "setrange", "hash", at, "")
	}
	p.has("a", "hello")
	p.until("a", 9000)
}

// TestSetRangeToTheEnd lays texts to as many bytes as there may be, and one byte beyond.
func TestSetRangeToTheEnd(t *testing.T) {
	word := longest[:api.MaxEntry]
	for _, was := range []string{"none", "", "a", longest[1:], longest} {
		p := fresh(t)
		key := "a"
		if was == "none" {
			key = "none"
		} else {
			p.text(key, was)
		}
		for _, x := range []struct{ at, s string }{{"65536", "y"}, {"65537", "y"}, {"65535", "yz"}, {"61441", word}, {"65536", word}, {most, "y"}, {most, word}, {"9223372036854771712", word}, {"4294967296", "y"}} {
			p.refused(api.ErrLong, "setrange", key, x.at, x.s)
		}
		p.number(api.MaxText, "setrange", key, "65535", "y")
		p.number(api.MaxText, "setrange", key, "61440", word)
		p.number(api.MaxText, "strlen", key)
		p.bulk("x", "getrange", key, "-1", "-1")
		p.refused(api.ErrLong, "append", key, "y")
	}
}

func TestSetRangeWithWhatIsNoNumber(t *testing.T) {
	p := fresh(t)
	p.collect()
	p.text("a", "hello")
	for _, n := range noNumbers {
		for _, key := range []string{"a", "none", "hash", "set", "list"} {
			p.refused(api.ErrInt, "setrange", key, n, "x")
			p.refused(api.ErrInt, "setrange", key, n, "")
		}
	}
}

// cutOut is the span of bytes by its words: each byte is asked whether it is in it.
func cutOut(s string, a, b int64) string {
	n := int64(len(s))
	if a < 0 {
		a += n
	}
	if b < 0 {
		b += n
	}
	var out []byte
	for i := range n {
		if i >= a && i <= b {
			out = append(out, s[i])
		}
	}
	return string(out)
}

// TestGetRange has indices below 0, at the ends, beyond, and crossed.
func TestGetRange(t *testing.T) {
	indices := []int64{-1 << 63, -1<<63 + 1, -65537, -7, -6, -5, -4, -2, -1, 0, 1, 2, 4, 5, 6, 7, 65536, 1<<63 - 2, 1<<63 - 1}
	p := fresh(t)
	for _, s := range []string{"", "a", "hello", "h\x00\xff\r\n!"} {
		p.text("a", s)
		for _, a := range indices {
			for _, b := range indices {
				args := []string{"getrange", "a", strconv.FormatInt(a, 10), strconv.FormatInt(b, 10)}
				want := ""
				// Far below 0 the end would wrap: such a one is 0, or ahead of all.
				if a < -1<<40 {
					a = -1 << 40
				}
				if b > -1<<40 {
					want = cutOut(s, a, b)
				}
				p.bulk(want, args...)
				args[1] = "none"
				p.bulk("", args...)
			}
		}
	}
	p.text("a", "hello")
	p.bulk("llo", "getrange", "a", "-3", "-1")
	p.bulk("hello", "getrange", "a", "0", "4")
	p.bulk("hello", "GETRANGE", "a", "-100", "100")
	p.bulk("", "getrange", "a", "3", "2")
	p.bulk("", "getrange", "a", "5", "9")
	p.bulk("o", "getrange", "a", "4", "9")
	p.bulk("h", "getrange", "a", "0", "0")
	p.bulk("", "getrange", "a", "0", "-6")
	p.bulk("h", "getrange", "a", "0", "-5")
}

// TestRangesWithWhatIsNoNumber asks with one at the first place, at the second, and at both.
func TestRangesWithWhatIsNoNumber(t *testing.T) {
	p := fresh(t)
	p.collect()
	p.text("a", "hello")
	for _, n := range noNumbers {
		for _, key := range []string{"a", "none", "hash", "set", "list"} {
			for _, name := range []string{"getrange", "bitcount"} {
				p.refused(api.ErrInt, name, key, n, "1")
				p.refused(api.ErrInt, name, key, "1", n)
				p.refused(api.ErrInt, name, key, n, n)
			}
		}
	}
	for key := range collections {
		p.refused(api.ErrType, "getrange", key, "0", "-1")
		p.refused(api.ErrType, "bitcount", key, "0", "-1")
	}
}
