package cmd_test

import (
	"slices"
	"strings"
	"testing"

	"tallboy/cmd"
	"tallboy/fault"
)

// requests are some of each kind: taken, and refused for each reason.
func requests() [][]string {
	return [][]string{
		{"GET", "a"}, {"mset", "a", "b", "C", "D"}, {"PING"},
		{"GET"}, {"MSET", "A", "b", "c"}, {"NoSuch", "A"}, {""}, {},
		{"GeT", strings.Repeat("L", 4097)}, {strings.Repeat("L", 4097), "A"},
	}
}

func TestCheckChangesNothingHandedIn(t *testing.T) {
	for _, args := range requests() {
		room := append(slices.Clone(args), "SET", "a", "MGET", "", strings.Repeat("S", 5000))
		was := slices.Clone(room)
		c, err := cmd.Check(room[:len(args)])
		if !slices.Equal(room, was) {
			t.Errorf("R2: Check of %s changed what it was handed", show(args))
		}
		spoil(room)
		again, why := cmd.Check(args)
		if c != again || fault.Code(err) != fault.Code(why) || fault.Cmd(err) != fault.Cmd(why) {
			t.Errorf("R2: Check of %s: %+v, %v, then %+v, %v", show(args), c, err, again, why)
		}
	}
}

func TestSpareRoomIsNotRead(t *testing.T) {
	of := byName(t)
	room := []string{"get", "a", strings.Repeat("L", 4097), "b"}
	wantTaken(t, room[:2], of["get"])
	wantTaken(t, room[:2:2], of["get"])
	long := []string{"mset", "a", "b", "c", "d"}
	wantTaken(t, long[:3], of["mset"])
}

func TestNamesAreNew(t *testing.T) {
	want := sortedNames(rows(t))
	first := cmd.Names()
	second := cmd.Names()
	spoil(first)
	if !slices.Equal(second, want) || !slices.Equal(cmd.Names(), want) {
		t.Error("R2: what was done to an answer of Names is seen in others")
	}
	for _, name := range want {
		if c, ok := cmd.Lookup(name); !ok || c.Name != name {
			t.Errorf("R2: Lookup(%s) behind a change of Names: %+v, %v", name, c, ok)
		}
	}
	if _, ok := cmd.Lookup("spoilt"); ok {
		t.Error("R2: a name that was written into an answer is looked up")
	}
	// Nor in their spare room.
	third := cmd.Names()
	_ = append(third[:10], "x", "y")
	if got := append(cmd.Names(), "z"); !slices.Equal(got[:len(got)-1], want) {
		t.Errorf("R2: Names: %q", got)
	}
}

func TestCommandsAreNew(t *testing.T) {
	c, _ := cmd.Lookup("get")
	c.Name, c.Least, c.Most, c.Write, c.Group = "spoilt", 0, 0, true, 0
	if again, ok := cmd.Lookup("get"); !ok || again != byName(t)["get"] {
		t.Errorf("R2: Lookup(get): %+v", again)
	}
	wantTaken(t, []string{"get", "a"}, byName(t)["get"])
}

func TestFaultsAreNew(t *testing.T) {
	for _, args := range requests()[3:] {
		_, err := cmd.Check(args)
		f, ok := err.(*fault.Fault)
		if !ok {
			t.Fatalf("P20.2: Check of %s: %v", show(args), err)
		}
		name, why := f.Cmd, fault.Code(err)
		f.Cmd, f.Err = "spoilt", nil
		wantRefused(t, args, name, why)
	}
}
