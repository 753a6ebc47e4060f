package tests

import (
	"strings"
	"testing"

	"loop.example/g01274/impl"
)

// readPart reads the part at the beginning of a text, and makes its nodes; it returns the last one, and the rest of the text.
func (l *nodesByHand) readPart(inputs int64, text string) (int16, string, bool) {
	if text == "" {
		return 0, "", false
	}
	first, rest := text[0], text[1:]
	switch {
	case first >= 'a' && int64(first) < 'a'+inputs:
		return l.put(inputNode(int16(first - 'a'))), rest, true
	case first == '1':
		return l.put(oneNode()), rest, true
	case first == '0':
		one := l.put(oneNode())
		return l.put(unlessNode(one, one)), rest, true
	case first == '!':
		x, rest, ok := l.readPart(inputs, rest)
		one := l.put(oneNode())
		return l.put(unlessNode(one, x)), rest, ok
	case first == '(':
		return l.readBrackets(inputs, rest)
	}
	return 0, "", false
}

// readBrackets reads what is behind an opening bracket, with the closing one.
func (l *nodesByHand) readBrackets(inputs int64, text string) (int16, string, bool) {
	x, rest, ok := l.readPart(inputs, text)
	if !ok || rest == "" {
		return 0, "", false
	}
	sign := rest[0]
	y, rest, ok := l.readPart(inputs, rest[1:])
	if !ok || !strings.HasPrefix(rest, ")") {
		return 0, "", false
	}
	rest = rest[1:]
	switch sign {
	case '&':
		return l.and(x, y), rest, true
	case '|':
		return l.put(orNode(x, y)), rest, true
	case '-':
		return l.put(unlessNode(x, y)), rest, true
	}
	return 0, "", false
}

// formulaByHand returns the network of a formula, which may have too many nodes; it returns false if there is none.
func formulaByHand(inputs int64, text string) (impl.Network, bool) {
	var nodes nodesByHand
	last, rest, ok := nodes.readPart(inputs, text)
	if !ok || rest != "" || len(text) > impl.MaxFormula {
		return impl.Network{}, false
	}
	return netOf(int8(inputs), []int16{last}, nodes...), true
}

// checkFormula holds ReadFormula of a text against what the document tells; it returns the code.
func checkFormula(t *testing.T, inputs int64, text string) int64 {
	t.Helper()
	want, ok := formulaByHand(inputs, text)
	n, c := impl.ReadFormula(inputs, text)
	switch {
	case !ok:
		netFails(t, "no formula: "+text, n, c, impl.ErrSyntax)
	case len(want.Nodes) > impl.MaxNodes:
		netFails(t, "too many nodes: "+text, n, c, impl.ErrLimit)
	default:
		netIs(t, text, n, c, want)
	}
	return c
}

func TestReadFormula(t *testing.T) {
	one, never := oneNode(), unlessNode(0, 0)
	a, b := inputNode(0), inputNode(1)
	cases := []struct {
		inputs int64
		text   string
		nodes  []impl.Node
	}{
		{1, "a", []impl.Node{a}},
		{6, "f", []impl.Node{inputNode(5)}},
		{1, "1", []impl.Node{one}},
		{1, "0", []impl.Node{one, never}},
		{1, "!a", []impl.Node{a, one, unlessNode(1, 0)}},
		{1, "!!a", []impl.Node{a, one, unlessNode(1, 0), one, unlessNode(3, 2)}},
		{1, "!0", []impl.Node{one, never, one, unlessNode(2, 1)}},
		{2, "(a&b)", []impl.Node{a, b, unlessNode(0, 1), unlessNode(0, 2)}},
		{2, "(a|b)", []impl.Node{a, b, orNode(0, 1)}},
		{2, "(b-a)", []impl.Node{b, a, unlessNode(0, 1)}},
		// Each letter makes its input again.
		{2, "(a|a)", []impl.Node{a, a, orNode(0, 1)}},
		{2, "(1-1)", []impl.Node{one, one, unlessNode(0, 1)}},
		{2, "!(a|b)", []impl.Node{a, b, orNode(0, 1), one, unlessNode(3, 2)}},
		{2, "(!a|b)", []impl.Node{a, one, unlessNode(1, 0), b, orNode(2, 3)}},
		{2, "(a|!b)", []impl.Node{a, b, one, unlessNode(2, 1), orNode(0, 3)}},
		{3, "((a&b)|!(c-1))", []impl.Node{a, b, unlessNode(0, 1), unlessNode(0, 2), inputNode(2), one, unlessNode(4, 5), one, unlessNode(7, 6), orNode(3, 8)}},
		{3, "(a-(b-c))", []impl.Node{a, b, inputNode(2), unlessNode(1, 2), unlessNode(0, 3)}},
		{3, "((a-b)-c)", []impl.Node{a, b, unlessNode(0, 1), inputNode(2), unlessNode(2, 3)}},
	}
	for _, one := range cases {
		n, c := impl.ReadFormula(one.inputs, one.text)
		netIs(t, one.text, n, c, netOf(int8(one.inputs), []int16{int16(len(one.nodes)) - 1}, one.nodes...))
		for more := one.inputs; more <= 6; more++ {
			checkFormula(t, more, one.text)
		}
	}
	tables := map[string]uint64{"(a&b)": 8, "(a|b)": 14, "(a-b)": 2, "(b-a)": 4, "!a": 5, "0": 0, "1": 15, "!(a&b)": 7, "((a-b)|(b-a))": 6, "!((a-b)|(b-a))": 9}
	for text, want := range tables {
		n, _ := impl.ReadFormula(2, text)
		got, c := impl.OutputTables(n)
		listIs(t, text, got, c, want)
	}
}

func TestReadFormulaErrors(t *testing.T) {
	for _, inputs := range []int64{-1, 0, 7, 1 << 8, 1<<8 + 2, 1<<32 + 2, least, greatest} {
		for _, text := range []string{"a", "", "(a)", "1", strings.Repeat("!", 200), strings.Repeat("!", 150) + "a"} {
			n, c := impl.ReadFormula(inputs, text)
			netFails(t, "no such number of inputs", n, c, impl.ErrRange)
		}
	}
	texts := []string{
		"", "(", ")", "()", "!", "&", "(a", "a)", "(a)", "((a))", "(!a)", "(1)", "(0)", "((a|b))", "(a|(b))", "((a)|b)", "!(a)", "a|b", "a&b", "!a|b", "a!", "!a!", "a b",
		"(a|b", "a|b)", "(a|b))", "((a|b)", "(a||b)", "(a|)", "(|b)", "(|)", "(a|b|a)", "(a&b-a)", "(a!b)", "(a(b)", "(ab)", "(a1b)", "aa", "a1", "11", "10", "(a|b)(a|b)", "(a|b)a", "a(a|b)",
		" a", "a ", "a\n", "( a|b)", "(a |b)", "(a| b)", "(a|b )", "(a|b)\n", "A", "B", "2", "-1", "-a", "+a", "~a", "(a+b)", "(a*b)", "(a^b)", "(a&&b)", "[a|b]", "{a|b}", "\x00", "a\x00", "(a|b\x00", "\xff", "ä", "(ä|b)",
		"c", "f", "g", "z", "`", "(a|c)", "!d", "(a&(b|c))",
	}
	for _, text := range texts {
		n, c := impl.ReadFormula(2, text)
		netFails(t, "no formula: "+text, n, c, impl.ErrSyntax)
	}
	// A letter of no input, for each number of inputs; behind "f" there is none at all.
	for inputs := int64(1); inputs <= 6; inputs++ {
		for i, letter := range "abcdefg" {
			n, c := impl.ReadFormula(inputs, string(letter))
			if int64(i) < inputs {
				netIs(t, "a letter", n, c, netOf(int8(inputs), []int16{0}, inputNode(int16(i))))
				continue
			}
			netFails(t, "a letter of no input", n, c, impl.ErrSyntax)
		}
	}
}

// All short texts of the signs of formulas, and long ones with a byte changed, are read as told.
func TestReadFormulaTexts(t *testing.T) {
	good := 0
	texts := []string{""}
	for range 6 {
		var longer []string
		for _, text := range texts {
			if checkFormula(t, 2, text) == impl.OK {
				good++
			}
			for _, sign := range "abc01!(&|-)" {
				longer = append(longer, text+string(sign))
			}
		}
		texts = longer
	}
	if good < 50 {
		t.Errorf("only %d formulas", good)
	}
}

// chanceFormula is a formula of the inputs 0 to 3 with at most so many signs between parts.
func chanceFormula(d *dice, most int) string {
	switch {
	case d.upTo(6) == 0:
		return "!" + chanceFormula(d, most)
	case most == 0 || d.upTo(8) == 0:
		return string("abcd01"[d.upTo(6)])
	}
	left := d.upTo(most)
	return "(" + chanceFormula(d, left) + string("&|-"[d.upTo(3)]) + chanceFormula(d, most-1-left) + ")"
}

func TestReadFormulaChanged(t *testing.T) {
	d := dice(41)
	codes := map[int64]int{}
	for range 3000 {
		text := chanceFormula(&d, d.upTo(50))
		codes[checkFormula(t, 4, text)]++
		at, sign := d.upTo(len(text)), string("abcde01!(&|-) "[d.upTo(14)])
		for _, other := range []string{text[:at] + text[at+1:], text[:at] + sign + text[at:], text[:at] + sign + text[at+1:], text + sign, text[:at]} {
			codes[checkFormula(t, 4, other)]++
		}
	}
	for _, c := range []int64{impl.OK, impl.ErrSyntax, impl.ErrLimit} {
		if codes[c] < 300 {
			t.Errorf("only %d times %s", codes[c], impl.CodeName(c))
		}
	}
}

func TestReadFormulaLimits(t *testing.T) {
	// A chain of 39 has 79 nodes; one "&" in it makes these 80, and two 81.
	cases := []struct {
		text  string
		nodes int
	}{
		{chainFormula(39, "|-"), 79},
		{strings.Replace(chainFormula(39, "|-"), "|", "&", 1), 80},
		{strings.Replace(chainFormula(39, "|-"), "|", "&", 2), 81},
		{"!" + chainFormula(38, "-"), 79},
		{"!" + strings.Replace(chainFormula(38, "-"), "-", "&", 1), 80},
		{"!" + chainFormula(39, "-"), 81},
		{strings.Repeat("!", 39) + "a", 79},
		{strings.Repeat("!", 39) + "0", 80},
		{strings.Repeat("!", 40) + "a", 81},
		{"(" + chainFormula(38, "|") + "-0)", 80},
		{"(" + chainFormula(38, "&") + "-0)", 118},
		// As long as can be: 200 bytes, and nested as deep as can be.
		{"!!!" + chainFormula(49, "|"), 105},
		{strings.Repeat("!", 199) + "a", 399},
	}
	for _, one := range cases {
		want, ok := formulaByHand(2, one.text)
		same(t, "nodes of "+one.text, []any{len(want.Nodes), ok}, []any{one.nodes, true})
		n, c := impl.ReadFormula(2, one.text)
		if one.nodes > 80 {
			netFails(t, "too many nodes", n, c, impl.ErrLimit)
			continue
		}
		netIs(t, "not too many", n, c, want)
	}
	for _, text := range []string{
		// A byte more than 200.
		"!!!!" + chainFormula(49, "|"), chainFormula(50, "|"), strings.Repeat("!", 200) + "a", strings.Repeat("!", 100000) + "a", strings.Repeat("(", 500000) + strings.Repeat(")", 500000),
		// No formula comes before too many nodes, also behind these.
		"!!!" + chainFormula(49, "|")[:196], chainFormula(49, "&") + ")", chainFormula(48, "&") + "&", strings.Repeat("!", 150), strings.Repeat("!", 150) + "c", strings.Repeat("(", 200),
	} {
		n, c := impl.ReadFormula(2, text)
		netFails(t, "no formula", n, c, impl.ErrSyntax)
	}
}

// formulaText writes the formula of a node; it returns the empty string if this is longer than 300 bytes.
func formulaText(n impl.Network, i int16) string {
	node := n.Nodes[i]
	switch node.Kind {
	case impl.NdInput:
		return string(rune('a' + node.A))
	case impl.NdOne:
		return "1"
	}
	a := formulaText(n, node.A)
	if a == "" {
		return ""
	}
	b := formulaText(n, node.B)
	if b == "" || len(a)+len(b) > 300 {
		return ""
	}
	return "(" + a + map[int8]string{impl.NdOr: "|", impl.NdUnless: "-"}[node.Kind] + b + ")"
}

func TestFormulaOf(t *testing.T) {
	short, long := 0, 0
	for _, n := range someNets(300) {
		for i, out := range n.Outputs {
			want := formulaText(n, out)
			text, c := impl.FormulaOf(n, int64(i))
			if want == "" || len(want) > 200 {
				long++
				same(t, "too long", []any{text, c}, []any{"", int64(impl.ErrLimit)})
				continue
			}
			short++
			same(t, "a formula", []any{text, c}, []any{want, int64(impl.OK)})
			// What is read again does the same, if it has not too many nodes.
			back, c := impl.ReadFormula(int64(n.Inputs), text)
			if c == impl.OK {
				same(t, "read again", outputTablesByRow(back)[0], outputTablesByRow(n)[i])
			} else {
				code(t, "read again", c, impl.ErrLimit)
			}
		}
	}
	if short < 300 || long < 50 {
		t.Errorf("only %d short formulas, and %d long ones", short, long)
	}
}

// Formulas that are read and written again do the same.
func TestFormulasAgain(t *testing.T) {
	d := dice(51)
	again := 0
	for range 2000 {
		n, c := impl.ReadFormula(4, chanceFormula(&d, d.upTo(20)))
		text, other := impl.FormulaOf(n, 0)
		if c != impl.OK || other != impl.OK {
			continue
		}
		if checkFormula(t, 4, text) == impl.ErrLimit {
			continue
		}
		again++
		back, c := impl.ReadFormula(4, text)
		code(t, "read again", c, impl.OK)
		same(t, "it does the same", outputTablesByRow(back), outputTablesByRow(n))
		third, c := impl.FormulaOf(back, 0)
		same(t, "written again", []any{third, c}, []any{text, int64(impl.OK)})
	}
	if again < 500 {
		t.Errorf("only %d formulas", again)
	}
}

func TestFormulaOfExamples(t *testing.T) {
	n := netOf(6, []int16{0, 1, 2, 3, 4, 4, 5, 6}, inputNode(5), oneNode(), orNode(0, 1), unlessNode(2, 0), unlessNode(1, 1), inputNode(0), orNode(3, 5))
	for i, want := range []string{"f", "1", "(f|1)", "((f|1)-f)", "(1-1)", "(1-1)", "a", "(((f|1)-f)|a)"} {
		text, c := impl.FormulaOf(n, int64(i))
		same(t, "formula", []any{text, c}, []any{want, int64(impl.OK)})
	}
	and, _ := impl.ReadFormula(2, "(a&b)")
	text, c := impl.FormulaOf(and, 0)
	same(t, "a and b", []any{text, c}, []any{"(a-(a-b))", int64(impl.OK)})
}

func TestFormulaOfErrors(t *testing.T) {
	for _, i := range []int64{-1, 2, 3, 5, 1 << 16, 1 << 32, least, greatest} {
		text, c := impl.FormulaOf(networkOf(4, 0), i)
		same(t, "no such output", []any{text, c}, []any{"", int64(impl.ErrRange)})
	}
	// A chain of gates has formulas with 4 bytes more each: the longest one has 197 bytes, and the next one 201.
	chain := chainNet(53)
	chain.Outputs = []int16{50, 51, 52, 0}
	for i, want := range []int{197, 0, 0, 1} {
		text, c := impl.FormulaOf(chain, int64(i))
		same(t, "how long", len(text), want)
		same(t, "the code", c == impl.ErrLimit, want == 0)
		same(t, "the code", c == impl.OK, want > 0)
	}
	_, c := impl.FormulaOf(chain, 4)
	code(t, "ErrRange comes before ErrLimit", c, impl.ErrRange)
	// Each node has the one before it twice: the formula of the last one would have more than 2 to the power 80 bytes.
	twice := netOf(1, []int16{79, 5, 6}, inputNode(0))
	for i := range int16(79) {
		twice.Nodes = append(twice.Nodes, orNode(i, i))
	}
	for i, want := range []int{0, 125, 0} {
		text, c := impl.FormulaOf(twice, int64(i))
		same(t, "how long", len(text), want)
		same(t, "the code", c == impl.ErrLimit, want == 0)
	}
	// A formula that is too long on the left alone, or on the right alone.
	for _, gate := range []impl.Node{orNode(52, 0), unlessNode(0, 52), unlessNode(51, 51), orNode(50, 50)} {
		n := chainNet(53)
		n.Nodes, n.Outputs = append(n.Nodes, gate), []int16{53}
		text, c := impl.FormulaOf(n, 0)
		same(t, "too long", []any{text, c}, []any{"", int64(impl.ErrLimit)})
	}
}
