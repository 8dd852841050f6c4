package sset

import "tallboy/api"

// few is how many members a pack is asked for as it is. Each time all of it is gone through, so for more of them it is first laid into a dict.
const few = 64

// Inter has the members that are in all sets. Of no set there are none.
func Inter(l ...*Set) []string {
	members := membersOf(smallest(l))
	for _, s := range l {
		members = those(members, s, true)
	}
	return members
}

// Union has the members that are in one set or more.
func Union(l ...*Set) []string {
	return together(l...).All()
}

// Diff has the members of the first set that are in no other.
func Diff(l ...*Set) []string {
	if len(l) == 0 {
		return nil
	}
	members := membersOf(l[0])
	for _, s := range l[1:] {
		members = those(members, s, false)
	}
	return members
}

// those are the ones of members that s has, or else the ones that it has not.
func those(members []string, s *Set, has bool) []string {
	if s == nil || s.Packed() && len(members) > few {
		s = together(s)
	}
	var some []string
	for _, m := range members {
		if s.Has(m) == has {
			some = append(some, m)
		}
	}
	return some
}

// together makes a set of all that these sets have. As no member is within its limits, it lies in a dict.
func together(l ...*Set) *Set {
	all := New(0, api.Limits{})
	for _, s := range l {
		for _, m := range membersOf(s) {
			all.Add(m)
		}
	}
	return all
}

// smallest is a set that has the fewest members, nil of no set.
func smallest(l []*Set) *Set {
	var least *Set
	for i, s := range l {
		if s == nil {
			return nil
		}
		if i == 0 || s.Len() < least.Len() {
			least = s
		}
	}
	return least
}

// membersOf has all of s, and nothing of nil.
func membersOf(s *Set) []string {
	if s == nil {
		return nil
	}
	return s.All()
}
