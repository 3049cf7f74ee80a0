package automaton

import (
	"math/rand"
	"reflect"
	"slices"
	"testing"

	"sixdot/api"
	"sixdot/table"
)

// manyStates returns a table of 8 modes and 64 rules with very many states: in each mode there are signs that rule out a class each.
func manyStates() api.Table {
	x := api.Table{Modes: 8, Accept: 128}
	for mode := range 8 {
		for k := range 6 {
			x.Rules = append(x.Rules, api.Rule{Cells: []api.Cell{api.Cell(1 + k)}, Left: 63, Right: 63 - 1<<k, From: mode, To: mode})
		}
		for _, print := range []string{"-", string([]byte("aA1a"[mode%4 : mode%4+1]))} {
			x.Rules = append(x.Rules, api.Rule{Print: print, Cells: []api.Cell{1}, Left: 63, Right: 63, From: mode, To: (mode + 1) % 8})
		}
	}
	return x
}

// stateTables returns small tables and large ones.
func stateTables() []api.Table {
	all := append(tables(), manyStates())
	random := rand.New(rand.NewSource(6))
	for i := range 40 {
		all = append(all, randomTable(random, 1+i%8, 1+random.Intn(64)))
	}
	return all
}

// The functions promise something for valid tables only.
func TestTablesAreValid(t *testing.T) {
	for i, x := range stateTables() {
		if !table.Valid(x) {
			t.Errorf("the table %d is not valid: %+v", i, x)
		}
	}
}

// P3.1 (C4, C5): the states of the chapter's example, all of which are alive, and of tables with dead ones.
func TestStatesExamples(t *testing.T) {
	for _, c := range []struct {
		x      api.Table
		states []api.State
		alive  []bool
	}{
		{
			example(),
			[]api.State{{Mode: 0, Last: 0, Need: 63}, {Mode: 0, Last: 1, Need: 63}, {Mode: 1, Last: 0, Need: 8}, {Mode: 1, Last: 1, Need: 8}, {Mode: 1, Last: 3, Need: 63}, {Mode: 0, Last: 4, Need: 63}, {Mode: 1, Last: 4, Need: 8}},
			[]bool{true, true, true, true, true, true, true},
		},
		{
			signs(),
			[]api.State{{Mode: 0, Last: 0, Need: 63}, {Mode: 1, Last: 0, Need: 7}, {Mode: 1, Last: 0, Need: 3}, {Mode: 2, Last: 0, Need: 4}, {Mode: 2, Last: 2, Need: 5}, {Mode: 3, Last: 0, Need: 4}, {Mode: 2, Last: 2, Need: 1}, {Mode: 3, Last: 2, Need: 5}, {Mode: 3, Last: 2, Need: 1}},
			[]bool{true, true, true, false, true, false, true, false, false},
		},
		{
			// The only rule applies nowhere, and the first state is accepting.
			api.Table{Modes: 2, Accept: 1, Rules: []api.Rule{{Print: "a", Cells: []api.Cell{1}, Left: 63, Right: 63, From: 1, To: 1}}},
			[]api.State{{Need: 63}},
			[]bool{true},
		},
		{
			// The same, where it is not.
			api.Table{Modes: 2, Accept: 2, Rules: []api.Rule{{Print: "a", Cells: []api.Cell{1}, Left: 63, Right: 63, From: 1, To: 1}}},
			[]api.State{{Need: 63}},
			[]bool{false},
		},
		{
			// A rule that leads from the first state back to it.
			api.Table{Modes: 2, Accept: 2, Rules: []api.Rule{{Cells: []api.Cell{1}, Left: 63, Right: 63}, {Print: "a", Cells: []api.Cell{1}, Left: 1, Right: 1, To: 1}}},
			[]api.State{{Need: 63}, {Mode: 1, Last: 1, Need: 1}},
			[]bool{true, true},
		},
	} {
		if got := States(c.x); !slices.Equal(got, c.states) {
			t.Errorf("States = %+v, not %+v", got, c.states)
		}
		if got := Alive(c.x); !slices.Equal(got, c.alive) {
			t.Errorf("Alive = %v, not %v", got, c.alive)
		}
	}
}

// P3.1 (C4), P3.4: the states are closed under steps, each is there once, and they come in the order of the places and rules from which each is reached first, which is an earlier place.
func TestStates(t *testing.T) {
	for _, x := range stateTables() {
		states := States(x)
		if len(states) == 0 || states[0] != Start() {
			t.Fatalf("States = %+v", states)
		}
		places := map[api.State]int{}
		for k, s := range states {
			if _, twice := places[s]; twice {
				t.Errorf("the state %+v is there twice", s)
			}
			places[s] = k
		}
		found := 1
		for k, s := range states {
			if k >= found {
				t.Errorf("the state %d, %+v, is reached from no earlier one", k, s)
			}
			for rule := range x.Rules {
				next, ok := wantStep(x, s, rule)
				if !ok {
					continue
				}
				place, there := places[next]
				if !there || place > found {
					t.Errorf("from the state %d the rule %d leads to %+v, of which the place is %d, %v, not %d at most", k, rule, next, place, there, found)
				}
				found = max(found, place+1)
			}
		}
	}
}

// steps returns, for each place in the list of states, the places of those to which rules lead.
func steps(x api.Table, states []api.State) [][]int {
	places := map[api.State]int{}
	for k, s := range states {
		places[s] = k
	}
	all := make([][]int, len(states))
	for k, s := range states {
		for rule := range x.Rules {
			if next, ok := wantStep(x, s, rule); ok {
				all[k] = append(all[k], places[next])
			}
		}
	}
	return all
}

// wantAlive is a second source of Alive: what is alive grows, one step a round, until it grows no more.
func wantAlive(x api.Table, states []api.State, next [][]int) []bool {
	alive := make([]bool, len(states))
	for k, s := range states {
		alive[k] = slices.Contains(bits(int(x.Accept)), s.Mode) && contains(s.Need, 0)
	}
	for {
		grown := slices.Clone(alive)
		for k := range states {
			grown[k] = alive[k] || slices.ContainsFunc(next[k], func(to int) bool { return alive[to] })
		}
		if slices.Equal(grown, alive) {
			return alive
		}
		alive = grown
	}
}

// P3.1 (C5), P3.5: a state is alive exactly if it is accepting or a rule leads to one that is.
func TestAlive(t *testing.T) {
	living, dead := 0, 0
	for _, x := range stateTables() {
		states := States(x)
		want := wantAlive(x, states, steps(x, states))
		if got := Alive(x); !slices.Equal(got, want) {
			t.Errorf("Alive = %v, not %v, for the states %+v (table %+v)", got, want, states, x)
		}
		for _, a := range want {
			if a {
				living++
			} else {
				dead++
			}
		}
	}
	if living < 100 || dead < 100 {
		t.Errorf("%d states are alive, %d are dead: too few", living, dead)
	}
}

// way returns rules that lead from a state to one of those that are wanted, if there are any.
func way(x api.Table, from api.State, wanted func(s api.State) bool) ([]int, bool) {
	type place struct {
		s    api.State
		path []int
	}
	known := map[api.State]bool{from: true}
	for waiting := []place{{from, nil}}; len(waiting) > 0; waiting = waiting[1:] {
		p := waiting[0]
		if wanted(p.s) {
			return p.path, true
		}
		for rule := range x.Rules {
			if next, ok := Step(x, p.s, rule); ok && !known[next] {
				known[next] = true
				waiting = append(waiting, place{next, append(slices.Clip(p.path), rule)})
			}
		}
	}
	return nil, false
}

// P3.5, P3.4: each state that is alive lies on a path, and no other one does; each is reached from the first one.
func TestAliveStatesLieOnPaths(t *testing.T) {
	for _, x := range tables() {
		alive := Alive(x)
		for k, s := range States(x) {
			to, reached := way(x, Start(), func(other api.State) bool { return other == s })
			on, ends := way(x, s, func(other api.State) bool { return Accepts(x, other) })
			if !reached || ends != alive[k] {
				t.Errorf("the state %+v is reached: %v, comes to an end: %v, is alive: %v", s, reached, ends, alive[k])
			}
			path := slices.Concat(to, on)
			if ends && (!Run(x, path).Ok || !isPath(x, path)) {
				t.Errorf("the rules %v are no path", path)
			}
		}
	}
}

// P3.5: the states of all short paths are alive.
func TestPathsAreAlive(t *testing.T) {
	alive := map[api.State]bool{}
	var last api.Table
	eachRun(func(x api.Table, path []int) {
		if !reflect.DeepEqual(x, last) {
			last = x
			clear(alive)
			living := Alive(x)
			for k, s := range States(x) {
				alive[s] = living[k]
			}
		}
		if !Run(x, path).Ok {
			return
		}
		for n := range len(path) + 1 {
			if s := Run(x, path[:n]).End; !alive[s] {
				t.Errorf("the state %+v behind %v is not alive", s, path[:n])
			}
		}
	})
}

// P1: tables of the most modes and rules, with thousands of states, are searched to the end.
func TestManyStates(t *testing.T) {
	x := manyStates()
	if len(x.Rules) != api.MaxRules {
		t.Errorf("the table has %d rules", len(x.Rules))
	}
	if states, alive := States(x), Alive(x); len(states) < 1000 || len(states) != len(alive) {
		t.Errorf("%d states, %d alive or not", len(states), len(alive))
	}
}
