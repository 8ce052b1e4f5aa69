package parse

import (
	"math/rand"
	"slices"
	"strings"
	"testing"

	"capstan/api"
)

// maker makes texts by the grammar, each choice at random.
type maker struct {
	*rand.Rand
	made []string
}

// heights answers of each form how deep its shallowest text is.
func heights() map[string]int {
	known := map[string]int{}
	for changed := true; changed; {
		changed = false
		for form, rules := range chapter {
			for _, rule := range rules {
				height, ok := ruleHeight(known, rule)
				if old, had := known[form]; ok && (!had || height < old) {
					known[form], changed = height, true
				}
			}
		}
	}
	return known
}

// ruleHeight answers how deep the rule's shallowest text is, if that is known yet.
func ruleHeight(known map[string]int, rule *rule) (int, bool) {
	height := 0
	for _, symbol := range rule.symbols {
		if _, isForm := chapter[symbol]; !isForm {
			continue
		}
		inner, ok := known[symbol]
		if !ok {
			return 0, false
		}
		height = max(height, inner+1)
	}
	return height, true
}

var formHeights = heights()

// form makes one of the form, not much deeper than depth, and of not many more tokens than 60.
func (m *maker) form(form string, depth int) {
	rules := chapter[form]
	rule := rules[m.Intn(len(rules))]
	if depth <= 0 || len(m.made) > 60 { // the shallowest one, so that there is an end
		for _, other := range rules {
			a, _ := ruleHeight(formHeights, other)
			if b, _ := ruleHeight(formHeights, rule); a < b {
				rule = other
			}
		}
	}
	for _, symbol := range rule.symbols {
		if _, isForm := chapter[symbol]; isForm {
			m.form(symbol, depth-1)
		} else {
			m.made = append(m.made, m.token(symbol))
		}
	}
}

// token answers the text of a token for which the symbol stands.
func (m *maker) token(symbol string) string {
	list := map[string][]string{
		"NAME":     {"a", "b", "cpu_1", "é", "min1", "Or", strings.Repeat("é", 32)},
		"NUMBER":   {"0", "1", "42", "1.5", "0.000001", "9223372036854.775807"},
		"DURATION": {"1s", "5m", "1h30m", "7d", "604800s"},
		"TEXT":     {`""`, `"0 3 * * *"`, `"é # ( or"`, `"` + strings.Repeat("日", 64) + `"`},
		"UNIT":     {"[]", "[s]", "[req/s]", "[ # ( ]", "[" + strings.Repeat("é", 64) + "]"},
	}[symbol]
	if list == nil {
		return strings.Trim(symbol, `"`)
	}
	return list[m.Intn(len(list))]
}

// gap answers what may stand between two tokens.
func (m *maker) gap() string {
	return []string{" ", " ", " ", "\n", "\t", "  ", "\r\n", " # é ; @ \n", "#\n"}[m.Intn(9)]
}

// joined answers the text of the tokens.
func (m *maker) joined(tokens []string) string {
	var b strings.Builder
	for _, token := range tokens {
		b.WriteString(token)
		b.WriteString(m.gap())
	}
	return b.String()
}

// make answers the tokens of one of the form.
func (m *maker) make(form string) []string {
	m.made = nil
	m.form(form, 4+m.Intn(25))
	return m.made
}

// changed answers the tokens with some of them out of place.
func (m *maker) changed(tokens []string) []string {
	tokens = slices.Clone(tokens)
	for range 1 + m.Intn(3) {
		i := m.Intn(len(tokens))
		switch m.Intn(6) {
		case 0:
			tokens = slices.Insert(tokens, i, m.any())
		case 1, 2:
			tokens[i] = m.any()
		case 3:
			tokens = slices.Delete(tokens, i, i+1)
		case 4:
			j := m.Intn(len(tokens))
			tokens[i], tokens[j] = tokens[j], tokens[i]
		case 5:
			tokens = tokens[:i+1]
		}
		if len(tokens) == 0 {
			break
		}
	}
	return tokens
}

// any answers any token, or what is none.
func (m *maker) any() string {
	list := append(strings.Fields(reserved), "..", "<=", ">=", ";", ":", ",", "=", "(", ")", "{", "}", "+", "-", "*", "/", "<", ">", "a", "1", "1.5", "5m", `"x"`, "[s]", "@", "01", `"`, "[", "日", `"("`, "[;]")
	return list[m.Intn(len(list))]
}

func TestP13_1And2RandomTexts(t *testing.T) {
	m := &maker{Rand: rand.New(rand.NewSource(13))}
	for range 2000 {
		for _, form := range []string{"policy", "expr"} {
			tokens := m.make(form)
			a, b := agrees(t, m.joined(tokens))
			if a != api.OK && b != api.OK {
				t.Fatal(tokens, a, b)
			}
			agrees(t, m.joined(m.changed(tokens)))
			agrees(t, m.joined(m.changed(tokens)))
		}
	}
}

func TestP13_1And2RandomTextsThatStayRight(t *testing.T) {
	// Most changes make a text wrong: here those are kept that don't, so that texts come that no rule made.
	m := &maker{Rand: rand.New(rand.NewSource(131))}
	for range 150 {
		for _, form := range []string{"policy", "expr"} {
			tokens := m.make(form)
			for range 40 {
				if len(tokens) > 80 {
					break
				}
				next := m.changed(tokens)
				a, b := agrees(t, m.joined(next))
				if a == api.OK || b == api.OK {
					tokens = next
				}
			}
		}
	}
}

func TestP13_1And2RandomPieces(t *testing.T) {
	m := &maker{Rand: rand.New(rand.NewSource(132))}
	for range 20000 {
		var tokens []string
		for range m.Intn(8) {
			tokens = append(tokens, m.any())
		}
		agrees(t, m.joined(tokens))
		agrees(t, strings.Join(tokens, ""))
	}
}

func TestP13_1And2RandomBytes(t *testing.T) {
	m := &maker{Rand: rand.New(rand.NewSource(133))}
	for range 2000 {
		s := []byte(m.joined(m.make([]string{"policy", "expr"}[m.Intn(2)])))
		for range 1 + m.Intn(2) {
			s[m.Intn(len(s))] = byte(m.Intn(256))
		}
		agrees(t, string(s))
	}
}

func TestP13_2ShortTexts(t *testing.T) {
	pieces := []string{"a", "1", "5m", "[s]", `"x"`, "-", "not", "+", "*", "<", "or", "(", ")", ",", "min", "sum", "true", "@"}
	var grow func(s string, left int)
	grow = func(s string, left int) {
		agrees(t, s)
		if left == 0 {
			return
		}
		for _, piece := range pieces {
			grow(s+piece+" ", left-1)
		}
	}
	grow("", 3)
}

func TestP13_1And2ThePlaceLiesWithin(t *testing.T) {
	m := &maker{Rand: rand.New(rand.NewSource(134))}
	for range 5000 {
		s := make([]byte, m.Intn(40))
		for i := range s {
			s[i] = byte(m.Intn(256))
			if m.Intn(20) > 0 {
				s[i] = "ab1(){}[]\"-+ ;:,.<=#\n"[m.Intn(21)]
			}
		}
		p, at, errno := Policy(string(s))
		if at < 0 || at > len(s) || errno == api.OK || p.Name != "" || len(p.Items) > 0 {
			t.Fatalf("%q: %v, %d, %d", s, p, at, errno)
		}
		x, at, errno := Expr(string(s))
		if at < 0 || at > len(s) || errno == api.OK && at != 0 || errno != api.OK && !same(x, api.Term{}) {
			t.Fatalf("%q: %v, %d, %d", s, x, at, errno)
		}
	}
}
