package calls_test

import (
	"reflect"
	"slices"
	"testing"

	"tallboy/api"
	"tallboy/calls"
	"tallboy/cmd"
	"tallboy/fault"
	"tallboy/space"
	"tallboy/value"
)

// kinds are all of values.
var kinds = []int{api.String, api.Hash, api.Set, api.List}

// begun is a call of hashes over a space in which nothing is.
func begun(t *testing.T) *calls.Call {
	t.Helper()
	s := space.New(api.Config{Seed: 3, Limits: api.Limits{Entries: 1, Text: 5}})
	c, err := calls.New(s, 5, cmd.Hashes, []string{"HGet", "a", "f"})
	if err != nil {
		t.Fatal(err)
	}
	return c
}

// wantFault asks for one fault of a name and a code.
func wantFault(t *testing.T, err error, name string, why api.Code) {
	t.Helper()
	if fault.Code(err) != why || fault.Cmd(err) != name || fault.Depth(err) != 1 {
		t.Errorf("%v, want %s: %v", err, name, why)
	}
}

func TestNew(t *testing.T) {
	c := begun(t)
	if c.Name != "hget" || c.Now != 5 || c.Space == nil || !slices.Equal(c.Args, []string{"HGet", "a", "f"}) {
		t.Errorf("%v", c)
	}
	for _, x := range []struct {
		s    *space.Space
		args []string
		name string
		why  api.Code
	}{
		{c.Space, nil, "", api.ErrUnknown},
		{nil, nil, "", api.ErrUnknown},
		{c.Space, []string{"NoSuch"}, "nosuch", api.ErrUnknown},
		{c.Space, []string{"HGet", "a"}, "hget", api.ErrArity},
		{nil, []string{"HGet", "a"}, "hget", api.ErrArity},
		{c.Space, []string{"Get", "a"}, "get", api.ErrUnknown},
		{nil, []string{"Get", "a"}, "get", api.ErrUnknown},
		{nil, []string{"HGet", "a", "f"}, "hget", api.ErrForm},
	} {
		got, err := calls.New(x.s, 5, cmd.Hashes, x.args)
		if got != nil {
			t.Errorf("%q: %v beside %v", x.args, got, err)
		}
		wantFault(t, err, x.name, x.why)
	}
}

func TestRefusals(t *testing.T) {
	c := begun(t)
	r, err := c.Refuse(api.ErrOver)
	wantFault(t, err, "hget", api.ErrOver)
	wantFault(t, c.Because(api.ErrSame), "hget", api.ErrSame)
	if !reflect.DeepEqual(r, api.Reply{}) || c.Because(api.OK) != nil {
		t.Errorf("%v, %v", r, c.Because(api.OK))
	}
}

func TestNumber(t *testing.T) {
	c := begun(t)
	if n, err := c.Number("-12"); n != -12 || err != nil {
		t.Errorf("%d, %v", n, err)
	}
	for _, word := range []string{"", "x", "+1", "01", "9223372036854775808"} {
		n, err := c.Number(word)
		wantFault(t, err, "hget", api.ErrInt)
		if n != 0 {
			t.Errorf("%q: %d", word, n)
		}
	}
}

// TestValues asks for a value of each Kind as each Kind.
func TestValues(t *testing.T) {
	for _, has := range kinds {
		c := begun(t)
		v := value.New(has, 1, api.Limits{Entries: 9})
		switch has {
		case api.Hash:
			v.Hash.Set("f", "1")
		case api.Set:
			v.Set.Add("m")
		case api.List:
			v.List.Right("s")
		}
		c.Space.Put("a", v, 5)
		for _, kind := range kinds {
			for _, ask := range []func(string, int) (*value.Value, error){c.Value, c.ValueOrNew} {
				got, err := ask("a", kind)
				if kind == has && (got != v || err != nil) {
					t.Errorf("%v, %v", got, err)
				} else if kind != has {
					wantFault(t, err, "hget", api.ErrType)
				}
				if err != nil && got != nil {
					t.Errorf("%v beside %v", got, err)
				}
			}
		}
	}
}

// TestValuesOfNoKey asks for what is not there, and of what has come to its end: the space does not know of the empty value.
func TestValuesOfNoKey(t *testing.T) {
	for _, kind := range kinds {
		c := begun(t)
		c.Space.Put("ended", value.OfText("x"), 3)
		c.Space.Expire("ended", 5, 3)
		for _, key := range []string{"none", "ended"} {
			if v, err := c.Value(key, kind); v != nil || err != nil {
				t.Errorf("%v, %v", v, err)
			}
			v, err := c.ValueOrNew(key, kind)
			if err != nil || v.Kind != kind || v.Len() != 0 {
				t.Errorf("%v, %v", v, err)
			}
			if other, _ := c.ValueOrNew(key, kind); other == v {
				t.Error("one value is told twice")
			}
		}
		if c.Space.Len(5) != 0 {
			t.Errorf("%q are there", c.Space.Keys(5))
		}
	}
}

func TestKeep(t *testing.T) {
	c := begun(t)
	v, _ := c.ValueOrNew("a", api.Hash)
	c.Keep("a", v)
	if c.Space.Version("a", 5) != 0 || c.Space.Len(5) != 0 {
		t.Error("an empty value is kept")
	}
	v.Hash.Set("f", "1")
	c.Keep("a", v)
	if _, timed := c.Space.Expiry("a", 5); c.Space.Get("a", 5) != v || timed {
		t.Error("a value is not kept")
	}
	if !v.Hash.Packed() {
		t.Error("the space's limits are not asked")
	}
	v.Hash.Set("g", "2")
	if v.Hash.Packed() {
		t.Error("the space's limits are not asked")
	}
	c.Space.Expire("a", 50, 5)
	was := c.Space.Version("a", 5)
	c.Keep("a", v)
	if at, _ := c.Space.Expiry("a", 5); c.Space.Get("a", 5) != v || at != 50 || c.Space.Version("a", 5) <= was {
		t.Error("a value is kept, but not Touched")
	}
	v.Hash.Delete("f")
	v.Hash.Delete("g")
	c.Keep("a", v)
	if c.Space.Get("a", 5) != nil {
		t.Error("a value that was left empty is there")
	}
}

func TestScan(t *testing.T) {
	c := begun(t)
	for _, x := range []struct {
		cursor string
		words  []string
		want   calls.Scan
	}{
		{"0", nil, calls.Scan{Cursor: 0, Pattern: "*", Count: 10}},
		{"007", []string{"match", "f*"}, calls.Scan{Cursor: 7, Pattern: "f*", Count: 10}},
		{"18446744073709551615", []string{"COUNT", "1"}, calls.Scan{Cursor: 1<<64 - 1, Pattern: "*", Count: 1}},
		{"1", []string{"Count", "77", "MATCH", ""}, calls.Scan{Cursor: 1, Pattern: "", Count: 77}},
		{"1", []string{"MATCH", "COUNT", "count", "5"}, calls.Scan{Cursor: 1, Pattern: "COUNT", Count: 5}},
	} {
		if got, err := c.Scan(x.cursor, x.words); got != x.want || err != nil {
			t.Errorf("%s %q: %v, %v", x.cursor, x.words, got, err)
		}
	}
	if s, err := c.Scan("0", []string{"COUNT", "9223372036854775807"}); err != nil || s.Count < 1000 {
		t.Errorf("%v, %v", s, err)
	}
	s, _ := c.Scan("0", []string{"MATCH", "f?"})
	if !s.Matches("f1") || s.Matches("f") {
		t.Errorf("%v", s)
	}
}

func TestWhatScanRefuses(t *testing.T) {
	c := begun(t)
	for _, x := range []struct {
		cursor string
		words  []string
		why    api.Code
	}{
		{"x", nil, api.ErrCursor},
		{"", []string{"COUNT"}, api.ErrCursor},
		{"18446744073709551616", []string{"foo"}, api.ErrCursor},
		{"0", []string{"foo"}, api.ErrSyntax},
		{"0", []string{"foo", "x"}, api.ErrSyntax},
		{"0", []string{"TYPE", "hash"}, api.ErrSyntax},
		{"0", []string{"MATCH"}, api.ErrSyntax},
		{"0", []string{"MATCH", "a", "Match", "a"}, api.ErrSyntax},
		{"0", []string{"COUNT", "1", "count", "1"}, api.ErrSyntax},
		{"0", []string{"COUNT", "0"}, api.ErrSyntax},
		{"0", []string{"COUNT", "-1", "foo"}, api.ErrSyntax},
		{"0", []string{"COUNT", "x"}, api.ErrInt},
		{"0", []string{"COUNT", "x", "foo"}, api.ErrInt},
		{"0", []string{"foo", "x", "COUNT", "x"}, api.ErrSyntax},
	} {
		s, err := c.Scan(x.cursor, x.words)
		wantFault(t, err, "hget", x.why)
		if s != (calls.Scan{}) {
			t.Errorf("%v beside %v", s, err)
		}
	}
}
