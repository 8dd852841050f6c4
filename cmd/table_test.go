package cmd_test

import (
	"slices"
	"strings"
	"testing"

	"tallboy/cmd"
)

func TestGroups(t *testing.T) {
	got := []int{cmd.Strings, cmd.Hashes, cmd.Sets, cmd.Lists, cmd.Keys, cmd.Conns}
	if !slices.Equal(got, []int{1, 2, 3, 4, 5, 6}) {
		t.Errorf("P20.1: groups: %v", got)
	}
}

func TestEachRow(t *testing.T) {
	l := rows(t)
	// So that rows that the test can't read are not left out.
	if len(l) != 18+13+12+12+17+9 {
		t.Fatalf("the chapter has %d rows", len(l))
	}
	for _, want := range l {
		for range 2 {
			if c, ok := cmd.Lookup(want.Name); !ok || c != want {
				t.Errorf("P20.1: Lookup(%s): %+v, %v, want %+v", want.Name, c, ok, want)
			}
		}
	}
}

func TestRowsOfEachForm(t *testing.T) {
	for _, want := range []cmd.Command{
		{Name: "get", Least: 2, Most: 2, Write: false, Group: 1},
		{Name: "set", Least: 3, Most: 8, Write: true, Group: 1},
		{Name: "bitcount", Least: 2, Most: 4, Write: false, Group: 1},
		{Name: "mget", Least: 2, Most: 256, Write: false, Group: 1},
		{Name: "mset", Least: 3, Most: 256, Write: true, Group: 1},
		{Name: "hset", Least: 4, Most: 256, Write: true, Group: 2},
		{Name: "hscan", Least: 3, Most: 7, Write: false, Group: 2},
		{Name: "spop", Least: 2, Most: 2, Write: true, Group: 3},
		{Name: "sscan", Least: 3, Most: 7, Write: false, Group: 3},
		{Name: "linsert", Least: 5, Most: 5, Write: true, Group: 4},
		{Name: "scan", Least: 2, Most: 8, Write: false, Group: 5},
		{Name: "dbsize", Least: 1, Most: 1, Write: false, Group: 5},
		{Name: "flushall", Least: 1, Most: 1, Write: true, Group: 5},
		{Name: "ping", Least: 1, Most: 2, Write: false, Group: 6},
		{Name: "watch", Least: 2, Most: 256, Write: false, Group: 6},
	} {
		if c, ok := cmd.Lookup(want.Name); !ok || c != want {
			t.Errorf("P20.1: Lookup(%s): %+v, %v, want %+v", want.Name, c, ok, want)
		}
	}
}

func TestNamesAreTheChaptersAlone(t *testing.T) {
	want := sortedNames(rows(t))
	for range 3 {
		if got := cmd.Names(); !slices.Equal(got, want) {
			t.Fatalf("P20.1: Names: %q, want %q", got, want)
		}
	}
}

func TestNamesRise(t *testing.T) {
	l := cmd.Names()
	if len(l) != 81 {
		t.Errorf("P20.1: %d names", len(l))
	}
	for i, name := range l {
		if i > 0 && l[i-1] >= name {
			t.Errorf("P20.1: Names: %q, then %q", l[i-1], name)
		}
		if c, ok := cmd.Lookup(name); !ok || c.Name != name || strings.ToLower(name) != name {
			t.Errorf("P20.1: Lookup(%q): %+v, %v", name, c, ok)
		}
	}
}

// TestRowsMakeSense holds what all rows have in common.
func TestRowsMakeSense(t *testing.T) {
	for _, name := range cmd.Names() {
		c, _ := cmd.Lookup(name)
		if c.Least < 1 || c.Most < c.Least || c.Most > 256 || c.Group < cmd.Strings || c.Group > cmd.Conns {
			t.Errorf("P20.1: %+v", c)
		}
		if c.Group == cmd.Conns && c.Write {
			t.Errorf("P20.1: %+v writes", c)
		}
	}
}
