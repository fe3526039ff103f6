package ir

import (
	"strconv"
	"strings"

	"isobar/api"
	"isobar/fval"
	"isobar/labels"
	"isobar/match"
)

// Text tells a plan, but for what its kinds do not have.
func Text(n Node) string {
	var b strings.Builder
	write(&b, n)
	return b.String()
}

func write(b *strings.Builder, n Node) {
	has, _ := shapeOf(n)
	part := func(has bool, text func() string) {
		if has {
			b.WriteString(" ")
			b.WriteString(text())
		}
	}
	b.WriteString("(")
	b.WriteString(strconv.Itoa(n.Kind))
	part(has.num, func() string { return fval.Text(n.Num) })
	part(has.fn, func() string { return strconv.Itoa(n.Fn) })
	part(has.matchers, func() string { return matchersText(n.M) })
	part(has.length, func() string { return strconv.Itoa(n.Range) })
	part(has.step, func() string { return strconv.Itoa(n.Step) })
	part(has.offset, func() string { return strconv.Itoa(n.Offset) })
	part(has.group, func() string { return groupText(n.G) })
	part(has.match, func() string { return matchText(n.X) })
	part(has.flag, func() string { return strconv.FormatBool(n.Flag) })
	part(has.label, func() string { return labels.Quote(n.Name) + " " + labels.Quote(n.Value) })
	for _, kid := range has.kidsOf(n) {
		b.WriteString(" ")
		write(b, kid)
	}
	b.WriteString(")")
}

func matchersText(l []api.Matcher) string {
	texts := make([]string, len(l))
	for i, m := range l {
		texts[i] = match.Text(m)
	}
	return listText(texts)
}

func groupText(g api.Group) string {
	return strconv.Itoa(g.How) + listText(g.Names)
}

func matchText(x api.Match) string {
	return groupText(x.G) + strconv.Itoa(x.Card) + listText(x.Include)
}

func listText(l []string) string {
	return "[" + strings.Join(l, ",") + "]"
}
