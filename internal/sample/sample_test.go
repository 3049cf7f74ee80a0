package sample

import (
	"math/rand"
	"slices"
	"testing"

	"sixdot/api"
	"sixdot/table"
)

// The tables are valid; a rule that a table has is not added to it again, and none is added to a full one.
func TestTables(t *testing.T) {
	random := rand.New(rand.NewSource(1))
	all := []api.Table{Numbers(), Short(), Capitals(), Chain(false), Chain(true)}
	for i := range 200 {
		all = append(all, Maker{Pick: random.Intn, Modes: 1 + i%8, Kinds: 62, Characters: "ab1"}.Table(1+i%70))
	}
	for _, x := range all {
		if _, e := table.Check(x); e != api.OK {
			t.Errorf("a table is not valid: %+v", x)
		}
		for _, r := range x.Rules {
			if y := With(x, r); len(y.Rules) != len(x.Rules) {
				t.Errorf("a rule was added again: %+v", y)
			}
		}
		if y := With(x, Rule("c", 1)); len(y.Rules) != min(len(x.Rules)+1, api.MaxRules) {
			t.Errorf("a rule was not added: %+v", y)
		}
	}
}

// No table of those that are not valid is valid.
func TestInvalid(t *testing.T) {
	for _, x := range Invalid() {
		if table.Valid(x) {
			t.Errorf("a table is valid: %+v", x)
		}
	}
}

// Rules print texts, in the order in which they are tried; texts are made of some characters.
func TestTexts(t *testing.T) {
	up := func(n int) []int {
		all := make([]int, n)
		for i := range all {
			all[i] = i
		}
		return all
	}
	down := func(n int) []int {
		all := up(n)
		slices.Reverse(all)
		return all
	}
	for _, c := range []struct {
		x     api.Table
		order func(n int) []int
		want  string
	}{{Short(), up, "aaa"}, {Short(), down, "ababab"}, {Numbers(), down, "1 "}, {Chain(false), down, ""}} {
		if got := Printed(c.x, 3, c.order); got != c.want {
			t.Errorf("Printed = %q, not %q (table %+v)", got, c.want, c.x)
		}
	}
	if got := Texts("ab", 2); !slices.Equal(got, []string{"", "a", "b", "aa", "ab", "ba", "bb"}) {
		t.Errorf("Texts = %q", got)
	}
}
