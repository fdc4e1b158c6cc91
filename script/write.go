package script

import (
	"strconv"
	"strings"

	"trommel/api"
	"trommel/value"
)

const (
	blank      = " "
	equals     = "="
	configWord = "config"
	attrWord   = "attr"
)

// configLine is the line with which a script begins.
func configLine(c api.Config) string {
	return numbered(configWord, c.Depth, c.Conj, c.Subs, c.Total, c.Shards, c.Queue, c.Window, c.Users)
}

// attrLine is the line of an attribute.
func attrLine(a api.Attr) string { return attrWord + blank + a.Name + blank + kindWord(a.Kind) }

// opLine is the line of an op in form.
func opLine(o api.Op) string {
	line := opWord(o.Kind)
	if o.Kind == api.OpCall {
		return numbered(line, o.Who) + blank + callText(o.Call)
	}
	return numbered(line, o.Nums...)
}

// callText is how a call in form is written.
func callText(c api.Call) string {
	text := callWord(c.Kind)
	switch c.Kind {
	case api.Sub:
		return text + blank + value.Quote(c.Text)
	case api.Replace:
		return numbered(text, c.ID) + blank + value.Quote(c.Text)
	case api.Unsub:
		return numbered(text, c.ID)
	}
	return paired(text, c.Event)
}

// numbered is a word and numbers behind it.
func numbered(word string, numbers ...int) string {
	var b strings.Builder
	b.WriteString(word)
	for _, n := range numbers {
		b.WriteString(blank)
		b.WriteString(strconv.Itoa(n))
	}
	return b.String()
}

// paired is a word and pairs behind it.
func paired(word string, pairs []api.Pair) string {
	var b strings.Builder
	b.WriteString(word)
	for _, p := range pairs {
		// The values are in form: there is no error to ask for.
		text, _ := value.Text(p.Value)
		b.WriteString(blank)
		b.WriteString(p.Name)
		b.WriteString(equals)
		b.WriteString(text)
	}
	return b.String()
}

// opWord is the word of a kind of ops; empty, if there is no such kind.
func opWord(kind int) string {
	switch kind {
	case api.OpCall:
		return "call"
	case api.OpStep:
		return "step"
	case api.OpDrain:
		return "drain"
	case api.OpStop:
		return "stop"
	case api.OpArm:
		return "arm"
	case api.OpCrash:
		return "crash"
	case api.OpTidy:
		return "tidy"
	}
	return ""
}

// callWord is the word of a kind of calls; empty, if there is no such kind.
func callWord(kind int) string {
	switch kind {
	case api.Sub:
		return "sub"
	case api.Replace:
		return "replace"
	case api.Unsub:
		return "unsub"
	case api.Match:
		return "match"
	}
	return ""
}

// kindWord is the word of a kind of values; empty, if there is no such kind.
func kindWord(kind int) string {
	switch kind {
	case api.KindInt:
		return "int"
	case api.KindWord:
		return "word"
	}
	return ""
}
