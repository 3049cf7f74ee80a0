package automaton

import (
	"math"
	"math/rand"
	"reflect"
	"slices"
	"strings"
	"testing"

	"sixdot/api"
	"sixdot/table"
)

// example returns the table of the chapter's examples.
func example() api.Table {
	return api.Table{Modes: 2, Accept: 3, Rules: []api.Rule{
		{Print: "a", Cells: []api.Cell{1}, Left: 63, Right: 63, From: 0, To: 0},
		{Print: "", Cells: []api.Cell{60}, Left: 63, Right: 8, From: 0, To: 1},
		{Print: "1", Cells: []api.Cell{1}, Left: 63, Right: 63, From: 1, To: 1},
		{Print: " ", Cells: []api.Cell{0}, Left: 63, Right: 63, From: 1, To: 0},
	}}
}

// narrow returns a table of a mode whose rules depend on their neighbours: a whole word, a capital sign, a letter, a capital letter behind its sign, a dash between letters, and an emphasised space.
func narrow() api.Table {
	return api.Table{Modes: 2, Accept: 1, Rules: []api.Rule{
		{Print: "the", Cells: []api.Cell{46}, Left: 17, Right: 17},
		{Print: "", Cells: []api.Cell{32}, Left: 63, Right: 4, To: 1},
		{Print: "t", Cells: []api.Cell{30}, Left: 63, Right: 63},
		{Print: "T", Cells: []api.Cell{30}, Left: 63, Right: 62, From: 1},
		{Print: "-", Cells: []api.Cell{36}, Left: 6, Right: 6},
		{Print: "\xa0", Cells: []api.Cell{0}, Left: 46, Right: 46},
	}}
}

// signs returns a table with several signs in a row that print nothing, and a mode from which no end can be reached.
func signs() api.Table {
	return api.Table{Modes: 4, Accept: 4, Rules: []api.Rule{
		{Print: "", Cells: []api.Cell{16}, Left: 63, Right: 7, To: 1},
		{Print: "", Cells: []api.Cell{8}, Left: 1, Right: 11, From: 1, To: 1},
		{Print: "", Cells: []api.Cell{4}, Left: 63, Right: 60, From: 1, To: 2},
		{Print: "aB", Cells: []api.Cell{3, 3}, Left: 63, Right: 5, From: 1, To: 2},
		{Print: "B", Cells: []api.Cell{3}, Left: 4, Right: 1, From: 2, To: 2},
		{Print: "", Cells: []api.Cell{2, 1}, Left: 63, Right: 63, From: 2, To: 3},
		{Print: "7", Cells: []api.Cell{1}, Left: 63, Right: 63, From: 3, To: 3},
	}}
}

// randomRule returns a sound rule for a number of modes, with wide masks more often than narrow ones, and of few characters.
func randomRule(random *rand.Rand, modes int) api.Rule {
	mask := func() uint8 {
		if random.Intn(2) == 0 {
			return 63
		}
		return uint8(1 + random.Intn(63))
	}
	r := api.Rule{Left: mask(), Right: mask(), From: random.Intn(modes), To: random.Intn(modes)}
	if random.Intn(6) == 0 {
		r.Print, r.Cells = string([]byte{byte(32 + 128*random.Intn(2))}), []api.Cell{0}
		return r
	}
	const characters = "aZ5-\xe1\xda\xb5\xad"
	for range random.Intn(4) {
		k := random.Intn(len(characters))
		r.Print += characters[k : k+1]
	}
	for range 1 + random.Intn(4) {
		r.Cells = append(r.Cells, api.Cell(1+random.Intn(62)))
	}
	return r
}

// randomTable returns a valid table of n rules.
func randomTable(random *rand.Rand, modes, n int) api.Table {
	x := api.Table{Modes: modes, Accept: uint8(1 + random.Intn(1<<modes-1))}
	for len(x.Rules) < n {
		r := randomRule(random, modes)
		if !slices.ContainsFunc(x.Rules, func(y api.Rule) bool { return reflect.DeepEqual(y, r) }) {
			x.Rules = append(x.Rules, r)
		}
	}
	return x
}

// tables returns the tables above and some random ones, small enough for all lists of a few of their rules.
func tables() []api.Table {
	all := []api.Table{example(), narrow(), signs()}
	random := rand.New(rand.NewSource(3))
	for i := range 40 {
		all = append(all, randomTable(random, 1+i%3, 3+i%5))
	}
	return all
}

// classes returns the classes in a mask, the edge included.
func classes(mask uint8) [6]bool {
	var in [6]bool
	for k := range in {
		in[k] = int(mask)/int(math.Pow(2, float64(k)))%2 == 1
	}
	return in
}

// contains reports whether a class is one of those in a mask.
func contains(mask uint8, class int) bool {
	return 0 <= class && class < 6 && classes(mask)[class]
}

// common returns the mask of the classes that are in both masks.
func common(a, b uint8) uint8 {
	mask := 0
	for k := range 6 {
		if contains(a, k) && contains(b, k) {
			mask += int(math.Pow(2, float64(k)))
		}
	}
	return uint8(mask)
}

// wantStep is a second source of Step, by the words of the chapter's section 'Types'.
func wantStep(x api.Table, s api.State, rule int) (api.State, bool) {
	for i, r := range x.Rules {
		if i != rule || r.From != s.Mode || !contains(r.Left, s.Last) {
			continue
		}
		if r.Print == "" {
			both := common(s.Need, r.Right)
			if both > 0 {
				return api.State{Mode: r.To, Last: s.Last, Need: both}, true
			}
			continue
		}
		bytes := []byte(r.Print)
		slices.Reverse(bytes)
		if contains(s.Need, table.Class(bytes[len(bytes)-1])) {
			return api.State{Mode: r.To, Last: table.Class(bytes[0]), Need: r.Right}, true
		}
	}
	return api.State{}, false
}

// checkStep compares Step with its second source.
func checkStep(t *testing.T, x api.Table, s api.State, rule int) {
	t.Helper()
	got, ok := Step(x, s, rule)
	if want, wantOk := wantStep(x, s, rule); got != want || ok != wantOk {
		t.Errorf("Step(%+v, %d) = %+v, %v, not %+v, %v (table %+v)", s, rule, got, ok, want, wantOk, x)
	}
}

// P3.1 (C1): the first state, and the step of the chapter's examples.
func TestStart(t *testing.T) {
	if s := Start(); s != (api.State{Mode: 0, Last: 0, Need: 63}) {
		t.Errorf("Start() = %+v", s)
	}
	if s, ok := Step(example(), Start(), 1); s != (api.State{Mode: 1, Last: 0, Need: 8}) || !ok {
		t.Errorf("Step = %+v, %v", s, ok)
	}
}

// P3.1 (C1): a step is what the rule says, for all masks and classes, and also for states that no valid table has.
func TestStep(t *testing.T) {
	for _, x := range []api.Table{example(), narrow(), signs(), randomTable(rand.New(rand.NewSource(4)), 8, 64)} {
		for mode := -1; mode <= 8; mode++ {
			for last := -1; last <= 8; last++ {
				for need := range 256 {
					for rule := -1; rule <= len(x.Rules); rule++ {
						checkStep(t, x, api.State{Mode: mode, Last: last, Need: uint8(need)}, rule)
					}
				}
			}
		}
	}
}

// P3.1 (C1): each mask of a rule is compared with each state of a mode.
func TestStepOfEveryMask(t *testing.T) {
	for _, print := range []string{"", "a", "A", "1", " ", "-", "aA", "1-a", "\xe1\xc1", "Zz9\xad"} {
		for mask := 1; mask <= 63; mask++ {
			left := api.Rule{Print: print, Cells: []api.Cell{5}, Left: uint8(mask), Right: 44}
			right := api.Rule{Print: print, Cells: []api.Cell{5}, Left: 22, Right: uint8(mask)}
			x := api.Table{Modes: 1, Accept: 1, Rules: []api.Rule{left, right}}
			for last := range 6 {
				for need := range 64 {
					s := api.State{Last: last, Need: uint8(need)}
					checkStep(t, x, s, 0)
					checkStep(t, x, s, 1)
				}
			}
		}
	}
}

// P3.1 (C1), P1: modes, classes and indices far outside of the table lead nowhere.
func TestStepFarOutside(t *testing.T) {
	far := []int{math.MinInt, math.MinInt + 1, math.MinInt32, -256, -64, -1, 64, 255, 256, 257, 1 << 32, 1<<32 + 1, math.MaxInt32, math.MaxInt}
	for _, x := range []api.Table{example(), signs()} {
		for _, n := range far {
			for rule := range x.Rules {
				checkStep(t, x, api.State{Mode: n, Last: 0, Need: 255}, rule)
				checkStep(t, x, api.State{Mode: 0, Last: n, Need: 255}, rule)
			}
			checkStep(t, x, Start(), n)
			if Accepts(x, api.State{Mode: n, Last: 0, Need: 63}) {
				t.Errorf("the mode %d accepts", n)
			}
			if !Accepts(api.Table{Modes: 8, Accept: 255, Rules: x.Rules}, api.State{Mode: 7, Last: n, Need: 1}) {
				t.Errorf("with the last class %d, which does not count, the mode 7 does not accept", n)
			}
		}
	}
}

// P3.1 (C2): a state is accepting exactly if its mode is, and the text may end.
func TestAccepts(t *testing.T) {
	for modes := 1; modes <= 8; modes++ {
		for accept := 1; accept < 1<<modes; accept++ {
			x := api.Table{Modes: modes, Accept: uint8(accept), Rules: example().Rules[:1]}
			for mode := -1; mode <= 9; mode++ {
				for need := range 256 {
					want := slices.Contains(bits(accept), mode) && need%2 == 1
					if got := Accepts(x, api.State{Mode: mode, Last: need % 6, Need: uint8(need)}); got != want {
						t.Errorf("accepting modes %b, mode %d, need %b: %v", accept, mode, need, got)
					}
				}
			}
		}
	}
}

// bits returns the numbers of the bits that are set.
func bits(mask int) []int {
	var l []int
	for k := 0; mask > 0; k, mask = k+1, mask/2 {
		if mask%2 == 1 {
			l = append(l, k)
		}
	}
	return l
}

// isPath tells without any state whether a list of rules is a path: modes are chained, and the masks fit the whole text.
func isPath(x api.Table, path []int) bool {
	text := ""
	for _, rule := range path {
		if rule < 0 || rule >= len(x.Rules) {
			return false
		}
		text += x.Rules[rule].Print
	}
	mode, at := 0, 0
	for _, rule := range path {
		r := x.Rules[rule]
		from := at
		at += len(r.Print)
		if r.From != mode || !contains(r.Left, classBehind(text[:from])) || !contains(r.Right, classAhead(text[at:])) {
			return false
		}
		mode = r.To
	}
	return slices.Contains(bits(int(x.Accept)), mode)
}

// classBehind returns the class of the last character of what was printed, or of the edge.
func classBehind(s string) int {
	if s == "" {
		return 0
	}
	return table.Class(s[len(s)-1])
}

// classAhead returns the class of the first character of what will be printed, or of the edge.
func classAhead(s string) int {
	if s == "" {
		return 0
	}
	return table.Class(s[0])
}

// eachList yields all lists of up to n numbers less than below; the list changes when the next one is asked for.
func eachList(n, below int, yield func(list []int)) {
	var extend func(list []int)
	extend = func(list []int) {
		yield(list)
		if len(list) < n {
			for k := range below {
				extend(append(list, k))
			}
		}
	}
	extend(make([]int, 0, n))
}

// eachRun yields the tables, and for each of them all lists of a few of its rules.
func eachRun(yield func(x api.Table, path []int)) {
	for _, x := range tables() {
		n := 5
		if len(x.Rules) > 5 {
			n = 4
		}
		eachList(n, len(x.Rules), func(path []int) { yield(x, path) })
	}
}

// checkRun compares a run with steps that are made one after the other; it reports whether the list is a path.
func checkRun(t *testing.T, x api.Table, path []int) bool {
	t.Helper()
	got := Run(x, path)
	s, at := Start(), 0
	var text strings.Builder
	var cells []api.Cell
	for at < len(path) {
		next, ok := wantStep(x, s, path[at])
		if !ok {
			break
		}
		text.WriteString(x.Rules[path[at]].Print)
		cells = slices.Concat(cells, x.Rules[path[at]].Cells)
		s = next
		at++
	}
	if got.At != at || got.End != s || got.Text != text.String() || !slices.Equal(got.Cells, cells) {
		t.Errorf("Run(%v) = %+v, not %q, %v, %d, %+v (table %+v)", path, got, text.String(), cells, at, s, x)
	}
	if want := isPath(x, path); got.Ok != want {
		t.Errorf("Run(%v) = %+v, but as a path: %v (table %+v)", path, got, want, x)
	}
	return got.Ok
}

// P3.1 (C3), P3.2, P3.3: lists of rules run as steps do, and they are paths exactly if modes and masks fit the text.
func TestRun(t *testing.T) {
	paths, lists := 0, 0
	eachRun(func(x api.Table, path []int) {
		lists++
		if checkRun(t, x, path) {
			paths++
		}
	})
	if paths < 500 || lists-paths < 500 {
		t.Errorf("%d lists, of which %d are paths: too few", lists, paths)
	}
}

// P3.1 (C3): runs of the chapter's examples, of the empty list, and of indices outside of the table.
func TestRunExamples(t *testing.T) {
	two := example()
	two.Accept = 2
	for _, c := range []struct {
		x    api.Table
		path []int
		want api.Trace
	}{
		{example(), []int{1, 2, 3, 0}, api.Trace{Text: "1 a", Cells: []api.Cell{60, 1, 0, 1}, At: 4, End: api.State{Mode: 0, Last: 1, Need: 63}, Ok: true}},
		{example(), []int{1, 0}, api.Trace{Cells: []api.Cell{60}, At: 1, End: api.State{Mode: 1, Last: 0, Need: 8}}},
		{example(), []int{1}, api.Trace{Cells: []api.Cell{60}, At: 1, End: api.State{Mode: 1, Last: 0, Need: 8}}},
		{example(), nil, api.Trace{End: api.State{Need: 63}, Ok: true}},
		{two, nil, api.Trace{End: api.State{Need: 63}}},
		{two, []int{0}, api.Trace{Text: "a", Cells: []api.Cell{1}, At: 1, End: api.State{Last: 1, Need: 63}}},
		{example(), []int{-1, 0}, api.Trace{End: api.State{Need: 63}}},
		{example(), []int{0, 4}, api.Trace{Text: "a", Cells: []api.Cell{1}, At: 1, End: api.State{Last: 1, Need: 63}}},
		{example(), []int{0, math.MinInt, 0}, api.Trace{Text: "a", Cells: []api.Cell{1}, At: 1, End: api.State{Last: 1, Need: 63}}},
		{narrow(), []int{0, 2}, api.Trace{Text: "the", Cells: []api.Cell{46}, At: 1, End: api.State{Last: 1, Need: 17}}},
		{narrow(), []int{0, 5, 0}, api.Trace{Text: "the\xa0the", Cells: []api.Cell{46, 0, 46}, At: 3, End: api.State{Last: 1, Need: 17}, Ok: true}},
		{narrow(), []int{2, 5, 5}, api.Trace{Text: "t\xa0", Cells: []api.Cell{30, 0}, At: 2, End: api.State{Last: 4, Need: 46}}},
		{narrow(), []int{5}, api.Trace{End: api.State{Need: 63}}},
		{narrow(), []int{2, 4, 1, 3, 2}, api.Trace{Text: "t-Tt", Cells: []api.Cell{30, 36, 32, 30, 30}, At: 5, End: api.State{Last: 1, Need: 63}, Ok: true}},
		{narrow(), []int{2, 4, 1, 3}, api.Trace{Text: "t-T", Cells: []api.Cell{30, 36, 32, 30}, At: 4, End: api.State{Last: 2, Need: 62}}},
		{signs(), []int{0, 1, 3, 4}, api.Trace{Text: "aBB", Cells: []api.Cell{16, 8, 3, 3, 3}, At: 4, End: api.State{Mode: 2, Last: 2, Need: 1}, Ok: true}},
		{signs(), []int{0, 1, 2}, api.Trace{Cells: []api.Cell{16, 8}, At: 2, End: api.State{Mode: 1, Need: 3}}},
	} {
		if got := Run(c.x, c.path); !sameTrace(got, c.want) {
			t.Errorf("Run(%v) = %+v, not %+v", c.path, got, c.want)
		}
	}
}

// sameTrace reports whether two traces are equal, where a list that is nil is an empty one.
func sameTrace(a, b api.Trace) bool {
	return a.Text == b.Text && slices.Equal(a.Cells, b.Cells) && a.At == b.At && a.End == b.End && a.Ok == b.Ok
}

// P3.6: a path writes a blank for each space of its text, emphasised or not, and no other ones.
func TestBlanks(t *testing.T) {
	spaces := 0
	eachRun(func(x api.Table, path []int) {
		r := Run(x, path)
		n := strings.Count(r.Text, " ") + strings.Count(r.Text, "\xa0")
		if r.Ok && n != blanks(r.Cells) {
			t.Errorf("Run(%v) = %+v", path, r)
		}
		spaces += n
	})
	if spaces < 500 {
		t.Errorf("only %d spaces", spaces)
	}
}

// blanks returns the number of the blanks.
func blanks(cells []api.Cell) int {
	n := 0
	for _, c := range cells {
		if c == api.Blank {
			n++
		}
	}
	return n
}

// P3.7: rules that are added at the end, and modes that accept in addition, leave each path a path of the same text and cells.
func TestMoreRules(t *testing.T) {
	random := rand.New(rand.NewSource(5))
	eachRun(func(x api.Table, path []int) {
		before := Run(x, path)
		if !before.Ok {
			return
		}
		more := x
		more.Accept |= uint8(random.Intn(1 << x.Modes))
		for range random.Intn(4) {
			more.Rules = append(slices.Clip(more.Rules), randomRule(random, x.Modes))
		}
		if after := Run(more, path); !sameTrace(after, before) {
			t.Errorf("Run(%v) = %+v, and %+v with %+v", path, before, after, more)
		}
	})
}

// P3.2: runs of many rules are as long as their lists, and a list that comes to its end later is no longer run.
func TestLongRun(t *testing.T) {
	x := example()
	path := slices.Repeat([]int{0, 1, 2, 3}, 50000)
	want := api.Trace{
		Text: strings.Repeat("a1 ", 50000), Cells: slices.Repeat([]api.Cell{1, 60, 1, 0}, 50000),
		At: 200000, End: api.State{Last: 4, Need: 63}, Ok: true,
	}
	if got := Run(x, path); !sameTrace(got, want) {
		t.Error("a long run is not what its rules do")
	}
	want.Ok = false
	if got := Run(x, slices.Concat(path, []int{3}, path)); !sameTrace(got, want) {
		t.Error("a long run that breaks off is not what its rules do")
	}
}

// P2: no function changes its arguments, and the results of a second call are the same, even if those of the first were changed.
func TestArgumentsStay(t *testing.T) {
	x, path := signs(), []int{0, 1, 3, 4}
	spare := api.Rule{Print: "spare", Cells: []api.Cell{1}}
	x.Rules = append(x.Rules, spare)[:len(x.Rules)]
	run, states, alive := Run(x, path), States(x), Alive(x)
	run.Cells[0], states[0].Mode, alive[0] = 99, 99, !alive[0]
	again, statesAgain, aliveAgain := Run(x, path), States(x), Alive(x)
	if again.Cells[0] != 16 || !slices.Equal(again.Cells[1:], run.Cells[1:]) || again.Text != run.Text {
		t.Errorf("the second run is %+v", again)
	}
	if statesAgain[0] != Start() || !slices.Equal(statesAgain[1:], states[1:]) {
		t.Errorf("the second list of states is %+v", statesAgain)
	}
	if aliveAgain[0] == alive[0] || !slices.Equal(aliveAgain[1:], alive[1:]) {
		t.Errorf("the second list of what is alive is %v", aliveAgain)
	}
	if !reflect.DeepEqual(x, signs()) || !reflect.DeepEqual(x.Rules[:8][7], spare) || !slices.Equal(path, []int{0, 1, 3, 4}) {
		t.Errorf("the arguments were changed: %+v, %v", x, path)
	}
}

// P1: no function panics or fails to end, not even for tables that are not valid, of which the results are unspecified.
func TestNoPanic(t *testing.T) {
	wild := []api.Rule{
		{}, {Print: "\x00\xff", Left: 255, Right: 255, From: -1, To: math.MaxInt}, {Left: 255, Right: 255, To: math.MinInt},
		{Print: strings.Repeat("\x01", 1000), Cells: make([]api.Cell, 1000), Left: 255, Right: 255, From: math.MinInt, To: 0},
		{Print: "a", Left: 255, Right: 255, To: -1},
	}
	for _, modes := range []int{math.MinInt, -1, 0, 1, 8, 9, 64, math.MaxInt} {
		for _, rules := range [][]api.Rule{nil, {}, wild, slices.Repeat(wild, 30)} {
			x := api.Table{Modes: modes, Accept: 255, Rules: rules}
			if states, alive := States(x), Alive(x); len(states) != len(alive) {
				t.Errorf("%d states, of which %d are alive or not", len(states), len(alive))
			}
			for _, mode := range []int{math.MinInt, -1, 0, 8, 9, math.MaxInt} {
				s := api.State{Mode: mode, Last: mode, Need: 255}
				Accepts(x, s)
				for rule := -1; rule <= len(rules); rule++ {
					Step(x, s, rule)
					Run(x, []int{rule, rule, 2, 3})
				}
			}
		}
	}
}
