package value_test

import (
	"strings"
	"testing"

	"tallboy/api"
	"tallboy/value"
)

// P15.2: texts that num.Parse takes are int, such as it just does not take are not; then the bytes count.
func TestEncodingOfString(t *testing.T) {
	for s, want := range map[string]string{
		"12": "int", // the chapter's run
		"0":  "int", "1": "int", "-1": "int", "9": "int", "10": "int", "127": "int", "128": "int", "-128": "int", "2147483648": "int", "-2147483649": "int",
		"9223372036854775807": "int", "-9223372036854775808": "int", "1000000000000000000": "int", "-1000000000000000000": "int",
		"9223372036854775808": "embstr", "-9223372036854775809": "embstr", "18446744073709551616": "embstr", "10000000000000000000": "embstr",
		"": "embstr", "+1": "embstr", "+0": "embstr", "-0": "embstr", "00": "embstr", "01": "embstr", "-01": "embstr", "007": "embstr",
		" 1": "embstr", "1 ": "embstr", "1\n": "embstr", "\x001": "embstr", "1\x00": "embstr", "- 1": "embstr", "-": "embstr", "+": "embstr", "--1": "embstr", "1-": "embstr",
		"1.0": "embstr", "1e3": "embstr", "0x1": "embstr", "1_0": "embstr", "\u0661": "embstr", "a": "embstr", "\xff": "embstr", "\x00": "embstr",
		strings.Repeat("x", 1): "embstr", strings.Repeat("x", 43): "embstr", strings.Repeat("x", 44): "embstr", strings.Repeat("x", 45): "raw", strings.Repeat("x", 46): "raw",
		strings.Repeat("1", 44): "embstr", strings.Repeat("1", 45): "raw", strings.Repeat("0", 44): "embstr", strings.Repeat("0", 45): "raw", strings.Repeat("0", 300): "raw",
		strings.Repeat("\u00e9", 22): "embstr", strings.Repeat("\u00e9", 23): "raw", strings.Repeat("\x00", 44): "embstr", strings.Repeat("\x00", 45): "raw",
		strings.Repeat("x", 255): "raw", strings.Repeat("x", 256+44): "raw", strings.Repeat("x", 65536): "raw", strings.Repeat("x", 65536+44): "raw",
	} {
		if got := value.OfText(s).Encoding(); got != want {
			t.Errorf("P15.2: Encoding of %.50q (%d bytes): %q, want %q", s, len(s), got, want)
		}
	}
}

// P15.2: a String's Encoding goes by the text that it has, not by the one that it had.
func TestEncodingOfChangedString(t *testing.T) {
	v := value.New(api.String, 1, limits(1, 1))
	for _, c := range []struct{ text, want string }{{"", "embstr"}, {"12", "int"}, {strings.Repeat("1", 45), "raw"}, {"1", "int"}, {"1a", "embstr"}, {"", "embstr"}} {
		v.Text = c.text
		if v.Encoding() != c.want {
			t.Errorf("P15.2: Encoding of %q: %q, want %q", c.text, v.Encoding(), c.want)
		}
	}
}

// wantEncoding asks for this name, and that a copy has it, too.
func wantEncoding(t *testing.T, v *value.Value, want, name string) {
	t.Helper()
	if v.Encoding() != want || v.Copy().Encoding() != want {
		t.Errorf("P15.2: %s: Encoding of a %s of %d: %q, of its copy %q, want %q", name, v.Type(), v.Len(), v.Encoding(), v.Copy().Encoding(), want)
	}
}

// P15.2: hashes and sets of as many things as their limits say, and of one more; then emptied.
func TestEncodingAtEntries(t *testing.T) {
	for _, kind := range []int{api.Hash, api.Set} {
		for entries, most := range map[int]int{-1: 0, 0: 0, 1: 1, 2: 2, 100: 100, 511: 511, 512: 512, 513: 512, 5000: 512} {
			v, w := filled(kind, 1, limits(entries, 60), names(most)...)
			wantEncoding(t, v, "listpack", "at its limit")
			add(v, w, "one more", "1")
			wantEncoding(t, v, "hashtable", "one beyond its limit")
			drop(v, w, "one more")
			wantEncoding(t, v, "hashtable", "again at its limit")
			for _, s := range names(most) {
				drop(v, w, s)
			}
			wantEncoding(t, v, "hashtable", "emptied")
			add(v, w, "a", "1")
			wantEncoding(t, v, "hashtable", "emptied and filled again")
			wantValue(t, v, w)
		}
	}
}

// P15.2: hashes and sets with a text of as many bytes as their limits say, and of one more; of a hash a field or a value.
func TestEncodingAtText(t *testing.T) {
	for text, most := range map[int]int{-1: 0, 0: 0, 1: 1, 9: 9, 59: 59, 60: 60, 61: 60, 5000: 60} {
		for _, kind := range []int{api.Hash, api.Set} {
			v, w := both(kind, 1, limits(5, text))
			add(v, w, sized(7, most), sized(8, most))
			wantEncoding(t, v, "listpack", "at its limit")
			add(v, w, sized(7, most+1), "")
			wantEncoding(t, v, "hashtable", "a text beyond its limit")
			drop(v, w, sized(7, most+1))
			drop(v, w, sized(7, most))
			wantEncoding(t, v, "hashtable", "emptied")
			wantValue(t, v, w)
		}
		v, w := both(api.Hash, 1, limits(5, text))
		add(v, w, "", sized(7, most+1))
		wantEncoding(t, v, "hashtable", "a value beyond its limit")
		add(v, w, "", "")
		wantEncoding(t, v, "hashtable", "a value that was beyond its limit")
		wantValue(t, v, w)
	}
}

// P15.2: a hash or a set that was emptied while it was packed still is.
func TestEncodingOfEmptied(t *testing.T) {
	for _, kind := range collections {
		v, w := filled(kind, 1, limits(5, 9), names(5)...)
		wantEncoding(t, v, "listpack", "five of five")
		for _, s := range names(5) {
			drop(v, w, s)
		}
		wantEncoding(t, v, "listpack", "emptied")
		wantValue(t, v, w)
	}
}

// P15.2: lists of no text, of one, of as many as one pack takes and of more; then emptied, from either end.
func TestEncodingOfList(t *testing.T) {
	for _, text := range []int{-1, 0, 60} {
		for entries, most := range map[int]int{-5: 1, -1: 1, 0: 1, 1: 1, 2: 2, 3: 3, 100: 100, 512: 512, 600: 600} {
			v := value.New(api.List, 1, limits(entries, text))
			wantEncoding(t, v, "listpack", "no text")
			v.List.Right(names(most)...)
			wantEncoding(t, v, "listpack", "as many as one pack takes")
			v.List.Right("one more")
			wantEncoding(t, v, "quicklist", "one more")
			v.List.PopLeft()
			wantEncoding(t, v, map[bool]string{true: "listpack", false: "quicklist"}[len(v.List.Nodes()) == 1], "one less")
			v.List.Trim(0, 0)
			wantEncoding(t, v, "listpack", "one text")
			v.List.PopRight()
			wantEncoding(t, v, "listpack", "emptied")
			v.List.Left(names(most + 1)...)
			wantEncoding(t, v, "quicklist", "filled from the left")
			v.List.Trim(1, 0)
			wantEncoding(t, v, "listpack", "trimmed to nothing")
		}
	}
}

// P15.2: a list of texts that one pack has no room for, and of texts above the limit of hashes and sets.
func TestEncodingOfLongList(t *testing.T) {
	v := value.New(api.List, 1, limits(1000, 1))
	v.List.Right(longest)
	wantEncoding(t, v, "listpack", "one text of 4096 bytes")
	for range 16 {
		v.List.Right(longest)
	}
	wantEncoding(t, v, "quicklist", "17 texts of 4096 bytes")
	v.List.Trim(0, 1)
	wantEncoding(t, v, "listpack", "2 texts of 4096 bytes")
}

// P15.2: two texts and more in two packs, and in three.
func TestEncodingOfNodes(t *testing.T) {
	for n, want := range []string{"listpack", "listpack", "quicklist", "quicklist", "quicklist"} {
		v := made(api.List, 1, limits(1, 1), names(n)...)
		wantEncoding(t, v, want, "one text a pack")
		if len(v.List.Nodes()) != n {
			t.Errorf("P15.2: %d packs, want %d", len(v.List.Nodes()), n)
		}
	}
}
