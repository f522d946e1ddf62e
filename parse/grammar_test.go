package parse_test

import (
	"slices"
	"strings"
	"testing"

	"coil/api"
)

// grammar is the chapter's grammar, a rule a line; name, Name, number and string are kinds of tokens, all else that isn't in < > is itself.
const grammar = `
<program> -> <items> <main>
<items> -> | <items> <item>
<item> -> type Name = <type> ; | method Name . name <params> <type> <block> | func name <params> <type> <block>
<defs> -> | <defs> type Name = <type> ; | <defs> method Name . name <params> <type> <block>
<main> -> main <type> <block>
<params> -> ( ) | ( <paramlist> )
<paramlist> -> name <type> | <paramlist> , name <type>
<type> -> int | bool | text | Name | * <type> | { <fields> } | fn <signature> | interface { <methods> }
<fields> -> | <fields> name <type> ; | <fields> embed name <type> ;
<methods> -> | <methods> name <signature> ;
<signature> -> ( ) <type> | ( <typelist> ) <type>
<typelist> -> <type> | <typelist> , <type>
<block> -> { <stmts> }
<stmts> -> | <stmts> <stmt>
<stmt> -> let name = <expr> ; | let name <type> = <expr> ; | name = <expr> ; | print <expr> ; | return <expr> ; | <expr> ;
<stmt> -> if <expr> <block> | if <expr> <block> else <block> | while <expr> <block>
<expr> -> <and> | <expr> or <and>
<and> -> <compare> | <and> and <compare>
<compare> -> <sum> | <sum> == <sum> | <sum> < <sum>
<sum> -> <product> | <sum> + <product> | <sum> - <product>
<product> -> <unary> | <product> * <unary>
<unary> -> <postfix> | - <unary> | not <unary>
<postfix> -> <primary> | <postfix> . name | <postfix> . name <args> | <postfix> <args> | <postfix> to <type>
<args> -> ( ) | ( <exprlist> )
<exprlist> -> <expr> | <exprlist> , <expr>
<primary> -> number | string | true | false | name | self | nil <type> | ( <expr> ) | <literal> | new <literal>
<literal> -> Name { } | Name { <inits> }
<inits> -> name : <expr> | <inits> , name : <expr>
`

// production is one way to write what a rule stands for.
type production struct {
	rule  string
	parts []string
}

func productions() []production {
	var l []production
	for line := range strings.Lines(strings.TrimSpace(grammar)) {
		rule, ways, _ := strings.Cut(line, "->")
		for way := range strings.SplitSeq(ways, " | ") {
			l = append(l, production{strings.TrimSpace(rule), strings.Fields(strings.Trim(way, " |\n"))})
		}
	}
	return l
}

// alphabet is each word and sign of the language and each other kind of token.
func alphabet() []string {
	var l []string
	for _, p := range productions() {
		for _, s := range p.parts {
			if !isRule(s) && !slices.Contains(l, s) {
				l = append(l, s)
			}
		}
	}
	slices.Sort(l)
	return l
}

func isRule(s string) bool { return len(s) > 2 && s[0] == '<' }

// item is a production that was begun at a place and is read as far as the dot.
type item struct{ production, dot, begun int }

// chart is what the tokens up to a place may be, by all productions at once: no parser's choices are in it.
type chart struct {
	rules []production
	ways  map[string][]int // the numbers of a rule's productions
	start string
	sets  [][]item
}

func newChart(start string) chart {
	c := chart{rules: productions(), ways: map[string][]int{}, start: start}
	for i, p := range c.rules {
		c.ways[p.rule] = append(c.ways[p.rule], i)
	}
	return c.with(c.begin(start, 0))
}

// begin is the productions of a rule, begun at a place.
func (c chart) begin(rule string, at int) []item {
	var l []item
	for _, i := range c.ways[rule] {
		l = append(l, item{i, 0, at})
	}
	return l
}

// with is the chart with one more set; those that it had are not changed.
func (c chart) with(set []item) chart {
	n := len(c.sets)
	c.sets = append(c.sets[:n:n], nil)
	known := map[item]int{}
	for _, x := range set {
		known[x] = 1
	}
	for grown := true; grown; { // till nothing is new, for a rule may stand for no token
		grown = false
		c.sets[n] = set
		for _, x := range set {
			for _, y := range c.follow(x, n) {
				if known[y] == 0 {
					known[y] = 1
					set = append(set, y)
					grown = true
				}
			}
		}
	}
	c.sets[n] = set
	return c
}

// follow is what stands in set n, because x does.
func (c chart) follow(x item, n int) []item {
	var l []item
	p := c.rules[x.production]
	if x.dot == len(p.parts) {
		for _, y := range c.sets[x.begun] {
			if c.expects(y) == p.rule {
				l = append(l, item{y.production, y.dot + 1, y.begun})
			}
		}
		return l
	}
	return c.begin(p.parts[x.dot], n)
}

// expects is what stands behind the dot of x; nothing at its end.
func (c chart) expects(x item) string {
	if p := c.rules[x.production]; x.dot < len(p.parts) {
		return p.parts[x.dot]
	}
	return ""
}

// next is the chart behind one more token; false, if it may not stand here.
func (c chart) next(token string) (chart, bool) {
	var set []item
	for _, x := range c.sets[len(c.sets)-1] {
		if c.expects(x) == token {
			set = append(set, item{x.production, x.dot + 1, x.begun})
		}
	}
	if len(set) == 0 {
		return c, false
	}
	return c.with(set), true
}

// whole: may the text end here?
func (c chart) whole() bool {
	for _, x := range c.sets[len(c.sets)-1] {
		if x.begun == 0 && c.expects(x) == "" && c.rules[x.production].rule == c.start {
			return true
		}
	}
	return false
}

// spell writes a token; names are told apart by n, so that none stands twice.
func spell(token string, n int) string {
	digits := string([]byte{byte('a' + n/26), byte('a' + n%26)})
	switch token {
	case "name":
		return "v" + digits
	case "Name":
		return "V" + digits
	case "number":
		return "7"
	case "string":
		return `"print (=; "`
	}
	return token
}

// joined is the text of tokens, with what stands between each two, and the place of each.
func joined(tokens []string, between func(a, b string) string) (string, []int) {
	var b strings.Builder
	var places []int
	for i, s := range tokens {
		if i > 0 {
			b.WriteString(between(spell(tokens[i-1], i-1), spell(s, i)))
		}
		places = append(places, b.Len())
		b.WriteString(spell(s, i))
	}
	return b.String(), places
}

func blank(a, b string) string { return " " }

// agrees fails, unless the call reads or refuses the tokens as the grammar says, and reads back what it reads;
// c is the chart of some of the first of them.
func agrees(t *testing.T, e entry, c chart, tokens []string) {
	t.Helper()
	src, places := joined(tokens, blank)
	for at := len(c.sets) - 1; at < len(tokens); at++ {
		next, ok := c.next(tokens[at])
		if !ok {
			refused(t, e, src, places[at], api.ErrToken)
			return
		}
		c = next
	}
	if !c.whole() {
		refused(t, e, src, len(src), api.ErrEnd)
		return
	}
	if _, err := e.read(src); err != nil {
		t.Errorf("%s %q: %v", e.rule, src, err)
		return
	}
	readsBack(t, e, src)
}

// TestShortTexts: P3.1, all texts of some tokens, as far as each may stand, and one token behind them.
func TestShortTexts(t *testing.T) {
	letters := alphabet()
	var walk func(e entry, c chart, tokens []string, n int)
	walk = func(e entry, c chart, tokens []string, n int) {
		agrees(t, e, c, tokens)
		if n == 0 || t.Failed() {
			return
		}
		for _, s := range letters {
			longer := append(tokens[:len(tokens):len(tokens)], s)
			if next, ok := c.next(s); ok {
				walk(e, next, longer, n-1)
			} else {
				agrees(t, e, c, longer)
			}
		}
	}
	for _, e := range entries() {
		walk(e, newChart(e.rule), nil, 4)
	}
}

// long is a text for each call in which each way of each rule stands that the call reads.
func long() map[string]string {
	const (
		types = "{ name int ; embed name * Name ; name fn ( ) bool ; name fn ( text , Name , { } ) Name ; embed name interface { } ; " +
			"name interface { name ( ) Name ; name ( int ) { name int ; } ; name ( Name , int ) fn ( ) int ; } ; }"
		expr1 = "number or string and not name == - name + number * name - ( name or number ) to Name to * Name"
		expr2 = "name . name ( ) . name ( name , number ) ( ) ( name , string ) . name < new Name { } * Name { name : self , name : true } + false"
		expr3 = "nil fn ( Name ) Name == ( ( name ) ) . name or new Name { name : name ( ) }"
		stmts = "let name = number ; let name { name int ; } = name . name ( name ) ; name = name ; name . name ; name == name ; ( name ) ; - name ; " +
			"print string ; return self ; if name { name ; } if name to Name { } else { name = number ; print name ; } while Name { } { while name { name ; } }"
		method = "method Name . name ( name int , name * Name ) Name { " + stmts + " } method Name . name ( ) { } { }"
		items  = "type Name = int ; type Name = { embed name Name ; } ; " + method
		funcs  = "func name ( name fn ( ) int ) int { return number ; } func name ( ) int { }"
	)
	return map[string]string{
		"<type>":    types,
		"<expr>":    "name ( " + expr1 + " , " + expr2 + " , " + expr3 + " )",
		"<stmts>":   stmts,
		"<defs>":    items,
		"<program>": funcs + " " + items + " main int { name ; }",
	}
}

// TestWrongTokens: P3.1 and P3.2, at each place of the grammar each token in the place of the one that stands there, and ahead of it;
// the one that stands there left out; the text's end.
func TestWrongTokens(t *testing.T) {
	letters := alphabet()
	for _, e := range entries() {
		tokens := strings.Fields(long()[e.rule])
		c := newChart(e.rule)
		agrees(t, e, c, tokens)
		for i := range tokens {
			head, tail := tokens[:i:i], tokens[i+1:]
			agrees(t, e, c, head)
			agrees(t, e, c, slices.Concat(head, tail))
			for _, s := range letters {
				agrees(t, e, c, slices.Concat(head, []string{s}, tail))
				agrees(t, e, c, slices.Concat(head, []string{s}, tokens[i:]))
			}
			c, _ = c.next(tokens[i])
		}
	}
}

// TestLongTextsHoldAll: the texts of the test above have each way of each rule in them, but for words and signs that stand for themselves.
func TestLongTextsHoldAll(t *testing.T) {
	seen := map[int]int{}
	for rule, src := range long() {
		c := newChart(rule)
		for _, s := range strings.Fields(src) {
			next, ok := c.next(s)
			if !ok {
				t.Fatal(rule, s, len(c.sets))
			}
			c = next
		}
		for _, set := range c.sets {
			for _, x := range set {
				if c.expects(x) == "" {
					seen[x.production] = 1
				}
			}
		}
	}
	for i, p := range productions() {
		if seen[i] == 0 {
			t.Error(p)
		}
	}
}
