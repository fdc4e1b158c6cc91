package shell_test

import (
	"fmt"
	"maps"
	"math"
	"strings"
	"testing"

	"trommel/api"
	"trommel/flow"
	"trommel/shell"
)

var most = api.Config{
	Limits: api.Limits{Depth: api.MaxDepth, Conj: api.MaxConj, Subs: api.MaxSubs, Total: api.MaxTotal},
	Shards: api.MaxShards, Queue: api.MaxQueue, Window: api.MaxWindow, Users: api.MaxUsers,
}

func configLine(c api.Config) string {
	return fmt.Sprintln("config", c.Depth, c.Conj, c.Subs, c.Total, c.Shards, c.Queue, c.Window, c.Users)
}

// telling are ops of which each number of a config makes something else, at both ends of its range.
func telling() string {
	var s strings.Builder
	add := func(line string, times int) { s.WriteString(strings.Repeat(line+"\n", times)) }
	sub := func(text string, times int) { add(`call 0 sub "`+text+`"`, times) }
	add("call 1 match", 1)
	add("call 6 match", 1)
	add("call 7 match", 1)
	// Of so many calls of one user some are sent ahead of the first take.
	add("call 0 match", 20)
	add("step"+strings.Repeat(" 0", 18), 1)
	add("crash", 1)
	for _, depth := range []int{2, 31, 32, 33} {
		sub(deep(depth), 1)
	}
	for _, width := range []int{2, 63, 64, 65} {
		sub(wide(width), 1)
	}
	add("drain", 1)
	// First by much, then by little, up to the most that all may be together.
	sub(wide(64), 64)
	sub(wide(3), 25)
	sub(wide(1), 2)
	add("drain", 1)
	for id := range 92 {
		add(fmt.Sprint("call 0 unsub ", id+1), 1)
	}
	sub(wide(1), api.MaxSubs+1)
	add("drain", 1)
	return s.String()
}

// Chapter 26: the config's numbers outside their ranges are taken as flow takes them: each number below its range, at both its ends, above it.
func TestConfigs(t *testing.T) {
	ops := "attr a int\n" + telling()
	runs := map[api.Config]string{}
	run := func(c api.Config) string {
		if runs[c] == "" {
			runs[c] = shell.Run(configLine(c) + ops)
		}
		return runs[c]
	}
	if told := run(most); !strings.Contains(told, "\nregistry 1024 ") || !strings.Contains(told, "\nuser 0 refused 14\n") {
		t.Fatal("the registry isn't filled")
	}
	told := map[string]int{} // how many texts each number makes
	for name, of := range map[string]func(*api.Config) *int{
		"depth": func(c *api.Config) *int { return &c.Depth }, "conj": func(c *api.Config) *int { return &c.Conj }, "subs": func(c *api.Config) *int { return &c.Subs }, "total": func(c *api.Config) *int { return &c.Total },
		"shards": func(c *api.Config) *int { return &c.Shards }, "queue": func(c *api.Config) *int { return &c.Queue }, "window": func(c *api.Config) *int { return &c.Window }, "users": func(c *api.Config) *int { return &c.Users },
	} {
		top := most
		highest := *of(&top)
		lowest := 1
		if name == "subs" || name == "total" {
			lowest = 0
		}
		seen := map[string]int{}
		for _, row := range []struct{ given, taken int }{
			{math.MinInt, lowest}, {lowest - 1, lowest}, {lowest, lowest}, {lowest + 1, lowest + 1}, {highest - 1, highest - 1}, {highest, highest}, {highest + 1, highest}, {math.MaxInt, highest},
		} {
			given, taken := most, most
			*of(&given), *of(&taken) = row.given, row.taken
			if flow.Clamp(given) != taken {
				t.Fatalf("flow takes %v as %v", given, flow.Clamp(given))
			}
			if run(given) != run(taken) {
				t.Fatalf("%s: %d isn't taken as %d", name, row.given, row.taken)
			}
			seen[run(given)]++
		}
		told[name] = len(seen)
	}
	if want := map[string]int{"depth": 4, "conj": 4, "subs": 4, "total": 4, "shards": 4, "queue": 4, "window": 4, "users": 4}; !maps.Equal(told, want) {
		t.Errorf("so many texts hang on each number: %v, not %v", told, want)
	}
}

// Chapter 26: the numbers of a config, one by one, by what they are there for.
func TestConfigNumbers(t *testing.T) {
	ops := "attr a int\n" + lines(sub, `call 0 sub "!a {1}"`, `call 0 sub "a {1} | a {2}"`, "call 1 match a=1", "drain")
	tells(t, "config 0 0 0 0 0 0 0 0\n"+ops, "1 ok", "2 ok", "3 ok", "4 refused 2", "5 moved 15", "user 0 refused 14", "user 0 refused 11", "user 0 refused 11", "order 0 0 0", "registry 0 0 1")
	tells(t, "config 2 0 9 9 -5 0 0 2\n"+ops, "1 ok", "2 ok", "3 ok", "4 ok", "5 moved 22", "user 0 number 1", "user 0 number 2", "user 0 refused 13", "user 1 meets 1", "order 0 1 0 0", "registry 2 2 3")
	tells(t, "config 99 99 1 99 99 1 1 99\n"+ops, "1 ok", "2 ok", "3 ok", "4 ok", "5 moved 49", "user 0 number 1", "user 0 refused 14", "user 0 refused 14", "user 1 meets 1", "order 0 1 0 0", "registry 1 1 2")
	tells(t, "config 99 99 99 3 99 1 1 99\n"+ops, "1 ok", "2 ok", "3 ok", "4 ok", "5 moved 50", "user 0 number 1", "user 0 number 2", "user 0 refused 14", "user 1 meets 1", "order 0 1 0 0", "registry 2 2 3")
	// Behind a crash the config is the same.
	tells(t, "config 99 99 99 2 1 0 0 0\nattr a int\n"+lines(sub, "drain", "crash", `call 0 sub "a {1} | a {2}"`, sub, sub, "call 1 match", "drain"),
		"1 ok", "2 moved 6", "user 0 number 1", "order 0", "registry 1 1 2", "3 ok", "4 ok", "5 ok", "6 ok", "7 refused 2", "8 moved 16", "user 0 refused 14", "user 0 number 2", "user 0 refused 14", "order 0 0 0", "registry 2 2 3")
}
