package code

import (
	"fmt"
	"slices"
	"strings"

	"capstan/api"
	"capstan/core"
	"capstan/fix"
)

// The chapter's table once more, as it stands there: code as lines of text, with labels where the chapter has them, of which
// the instructions are made in a second step; with nothing of the program's own.

type plainLine struct {
	name  string // of the instruction; or of the label that stands here, with a colon
	label string // that the instruction leads to
	n, m  int64  // A; of INum and IScale the constants themselves; of IHave the local
}

type plainText struct {
	lines  []plainLine
	labels int
}

func (p *plainText) put(lines ...any) {
	for _, x := range lines {
		switch x := x.(type) {
		case string: // "NAME" or "NAME LABEL" or "LABEL:"
			name, label, _ := strings.Cut(x, " ")
			p.lines = append(p.lines, plainLine{name: name, label: label})
		case plainLine:
			p.lines = append(p.lines, x)
		case api.Core:
			p.core(x)
		}
	}
}

func (p *plainText) new() (l, m string) {
	p.labels++
	return fmt.Sprint("L", p.labels), fmt.Sprint("M", p.labels)
}

func plainOf(name string, n int64) plainLine {
	return plainLine{name: name, n: n}
}

func (p *plainText) core(c api.Core) {
	l, m := p.new()
	var x, y, z api.Core
	if len(c.Parts) > 0 {
		x = c.Parts[0]
	}
	if len(c.Parts) > 1 {
		y = c.Parts[1]
	}
	if len(c.Parts) > 2 {
		z = c.Parts[2]
	}
	switch c.Op {
	case 1, 2:
		p.put(plainOf("INum", c.N))
	case 3:
		p.put("IRep")
	case 4, 5, 6:
		p.put(plainOf(strings.Fields("IWin ICron IFail")[c.Op-4], c.N))
	case 7:
		p.put(plainLine{"IHave", l, c.N, 0}, x, plainOf("ISet", c.N), l+":")
	case 8, 9, 10, 11, 12:
		p.put(x, strings.Fields("INeg INot IAbs ICeil IFloor")[c.Op-8])
	case 13:
		p.put(x, plainLine{"IScale", "", c.N, c.M})
	case 14, 15, 16, 17, 18, 19, 20, 21, 22, 23, 24:
		p.put(x, y, strings.Fields("IAdd ISub IMul IDiv ILess ILeq IEq IMore IMeq IMin2 IMax2")[c.Op-14])
	case 25:
		p.put(x, "IZero "+l, y, "IJump "+m, l+":", plainOf("INum", 0), m+":")
	case 26:
		p.put(x, "IZero "+l, plainOf("INum", 1), "IJump "+m, l+":", y, m+":")
	case 27:
		p.put("ITry "+l, x, "IDone "+m, l+":", y, m+":")
	case 28:
		p.put(x, "IZero "+l, y, "IJump "+m, l+":", z, m+":")
	case 29:
		p.put("IHold")
	case 30:
		p.put(x, "ITo")
	case 31:
		p.put(x, "IBy")
	case 32:
		p.put(x)
		for rungs := c.Parts[1:]; len(rungs) > 1; rungs = rungs[2:] {
			l, _ := p.new()
			p.put("ICopy", plainOf("INum", rungs[0].N), "ILess", "IZero "+l, "IDrop", rungs[1], l+":")
		}
		p.put("IDrop", c.Parts[len(c.Parts)-1])
	}
}

// plainEmit answers the program that p, which is formed, is made to.
func plainEmit(p api.Plan) api.Program {
	var text plainText
	for _, g := range p.Guards {
		l, _ := text.new()
		text.put(g.When, "IZero "+l, g.Then, l+":")
	}
	text.put(p.Final)
	made := api.Program{Metrics: len(p.Metrics), Rules: p.Rules, Wins: p.Wins, Crons: p.Crons, Locals: p.Locals}
	places, count := map[string]int64{}, int64(0)
	for _, line := range text.lines {
		if label, is := strings.CutSuffix(line.name, ":"); is {
			places[label] = count
		} else {
			count++
		}
	}
	names := names()
	for _, line := range text.lines {
		if strings.HasSuffix(line.name, ":") {
			continue
		}
		a := line.n
		switch line.name {
		case "INum":
			made.Consts, a = plainConst(made.Consts, line.n)
		case "IScale":
			made.Consts, a = plainPair(made.Consts, line.n, line.m)
		case "IHave":
			a = 16384*line.n + places[line.label]
		case "IZero", "IJump", "ITry", "IDone":
			a = places[line.label]
		}
		made.Code = append(made.Code, api.Instr{Op: slices.Index(names, line.name), A: a})
	}
	made.Height, _ = walked(made)
	return made
}

func plainConst(consts []int64, n int64) ([]int64, int64) {
	for i, x := range consts {
		if x == n {
			return consts, int64(i)
		}
	}
	return append(consts, n), int64(len(consts))
}

func plainPair(consts []int64, n, m int64) ([]int64, int64) {
	count := len(consts)
	for i := 0; i+1 < count; i++ {
		if consts[i] == n && consts[i+1] == m {
			return consts, int64(i)
		}
	}
	if count > 0 && consts[count-1] == n {
		return append(consts, m), int64(count) - 1
	}
	return append(consts, n, m), int64(count)
}

// place is what stands when the machine comes to an instruction: numbers on the stack, tries that are open.
type place struct {
	numbers, tries int
}

// walked goes all ways through p (chapter 23). It answers the greatest height, and what was wrong on a way.
func walked(p api.Program) (int, string) {
	if len(p.Code) == 0 {
		return 0, "no code"
	}
	highest, fault := 0, ""
	known := map[int]place{0: {}}
	lead := func(from, at int, x place) {
		highest = max(highest, x.numbers)
		if old, there := known[at]; there && old != x || at <= from || at >= len(p.Code) {
			fault = fmt.Sprint(from, " leads to ", at, " with ", x)
		}
		known[at] = x
	}
	takes := []int{6: 1, 7: 1, 8: 1, 9: 1, 10: 1, 11: 1, 12: 2, 13: 2, 14: 2, 15: 2, 16: 2, 17: 2, 18: 2, 19: 2, 20: 2, 21: 2, 22: 2, 24: 1, 28: 1, 30: 1, 31: 1, 32: 1, 33: 1}
	puts := []int{1: 1, 2: 1, 3: 1, 4: 1, 5: 1, 6: 1, 7: 1, 8: 1, 9: 1, 10: 1, 11: 1, 12: 1, 13: 1, 14: 1, 15: 1, 16: 1, 17: 1, 18: 1, 19: 1, 20: 1, 21: 1, 22: 1, 28: 1, 32: 2, 33: 0}
	for at, i := range p.Code {
		x, there := known[at]
		if !there || i.Op < 1 || i.Op > 33 || x.numbers < takes[i.Op] {
			return highest, fmt.Sprint(at, ": nothing leads there, or it takes what isn't there")
		}
		x.numbers += puts[i.Op] - takes[i.Op]
		switch i.Op {
		case 23:
			lead(at, int(i.A), x)
		case 24:
			lead(at, int(i.A), x)
			lead(at, at+1, x)
		case 25:
			lead(at, int(i.A), x)
			lead(at, at+1, place{x.numbers, x.tries + 1})
		case 26:
			lead(at, int(i.A), place{x.numbers, x.tries - 1})
			if x.tries == 0 {
				fault = fmt.Sprint(at, " ends a try that isn't there")
			}
		case 27:
			lead(at, int(i.A%16384), place{x.numbers + 1, x.tries})
			lead(at, at+1, x)
		case 29, 30, 31:
			if x != (place{}) {
				fault = fmt.Sprint(at, " ends with ", x)
			}
		default:
			lead(at, at+1, x)
		}
	}
	return highest, fault
}

// machine runs a program in an Env (chapter 24).
type machine struct {
	api.Program
	env    api.Env
	stack  []int64
	locals map[int64]int64
	tries  []attempt
	at     int
	over   bool
	says   api.Raw
}

type attempt struct {
	target int64
	height int
}

func ran(p api.Program, v api.Env) api.Raw {
	m := machine{Program: p, env: v, locals: map[int64]int64{}}
	for !m.over {
		i := m.Code[m.at]
		m.at++
		m.step(i)
	}
	return m.says
}

func (m *machine) push(n int64) {
	m.stack = append(m.stack, n)
}

func (m *machine) pop() int64 {
	last := len(m.stack) - 1
	n := m.stack[last]
	m.stack = m.stack[:last]
	return n
}

func (m *machine) stop(reason api.Reason) {
	last := len(m.tries) - 1
	if last < 0 {
		m.over, m.says = true, api.Raw{Hold: true, Reason: reason}
		return
	}
	m.stack, m.at = m.stack[:m.tries[last].height], int(m.tries[last].target)
	m.tries = m.tries[:last]
}

// worked puts there what the operation of a core comes to.
func (m *machine) worked(op int, n, d int64, parts ...api.Core) {
	told, errno := core.Eval(api.Core{Op: op, N: n, M: d, Parts: parts}, api.Env{})
	switch {
	case errno != api.OK:
		panic(fmt.Sprint(op, parts))
	case told.Reason != api.Fine:
		m.stop(told.Reason)
	default:
		m.push(told.N)
	}
}

func (m *machine) step(i api.Instr) {
	switch i.Op {
	case api.INum:
		m.push(m.Consts[i.A])
	case api.IRep:
		m.push(fix.Whole(m.env.Rep))
	case api.IWin:
		if told := m.env.Wins[i.A]; told.Reason != api.Fine {
			m.stop(told.Reason)
		} else {
			m.push(told.N)
		}
	case api.ICron:
		m.push(map[bool]int64{true: 1}[m.env.Crons[i.A]])
	case api.IFail:
		m.stop(api.Reason(i.A))
	case api.INeg, api.IAbs, api.ICeil, api.IFloor:
		m.worked(i.Op-api.INeg+api.ONeg, 0, 0, num(m.pop()))
	case api.INot:
		m.push(1 - m.pop())
	case api.IScale:
		m.worked(api.OScale, m.Consts[i.A], m.Consts[i.A+1], num(m.pop()))
	case api.IJump:
		m.at = int(i.A)
	case api.IZero:
		if m.pop() == 0 {
			m.at = int(i.A)
		}
	case api.ITry:
		m.tries = append(m.tries, attempt{i.A, len(m.stack)})
	case api.IDone:
		m.tries, m.at = m.tries[:len(m.tries)-1], int(i.A)
	case api.IHave:
		if n, set := m.locals[i.A/16384]; set {
			m.push(n)
			m.at = int(i.A % 16384)
		}
	case api.ISet:
		m.locals[i.A] = m.stack[len(m.stack)-1]
	case api.ICopy:
		m.push(m.stack[len(m.stack)-1])
	case api.IDrop:
		m.pop()
	case api.IHold:
		m.stop(api.Asked)
	case api.ITo:
		m.over, m.says = true, api.Raw{Want: fix.Count(m.pop())}
	case api.IBy:
		m.over, m.says = true, api.Raw{Want: fix.Add(m.env.Rep, fix.Count(m.pop()))}
	default: // IAdd to IMax2
		b, a := m.pop(), m.pop()
		m.worked(i.Op-api.IAdd+api.OAdd, 0, 0, num(a), num(b))
	}
}
