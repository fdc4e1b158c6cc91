package shell_test

import (
	"strings"
	"testing"
)

// P26.1: the chapter's example.
func TestExample(t *testing.T) {
	tells(t, lines("config 9 9 9 9 2 1 1 2", "attr a int", `call 0 sub "a {1} | a {2}"`, "call 0 match a=2", "drain", "crash", "call 1 match a=1", "drain"),
		"1 ok", "2 ok", "3 moved 13", "user 0 number 1", "user 0 meets 1", "order 0 0", "registry 1 2 2", "4 ok", "5 ok", "6 moved 6", "user 1 meets 1", "order 1", "registry 1 2 2")
}

// P26.1: a script without ops, with attributes and without; one with ops alone.
func TestWithoutOps(t *testing.T) {
	for _, config := range []string{"config 9 9 9 9 2 1 1 2", "config 0 0 0 0 0 0 0 0", "config -1 -1 -1 -1 -1 -1 -1 -1", "config 99 99 9999 9999 99 99 99 99"} {
		tells(t, lines(config), "order", "registry 0 0 1")
		tells(t, lines(config, "attr a int"), "order", "registry 0 0 1")
		tells(t, lines(config, "attr b word", "attr a int"), "order", "registry 0 0 1")
	}
	tells(t, lines("config 9 9 9 9 2 1 1 2", `call 0 sub "a {1}"`, "call 0 match a=1", "call 0 match", "drain"),
		"1 ok", "2 ok", "3 ok", "4 moved 18", "user 0 refused 12", "user 0 refused 12", "user 0 ok", "order 0 0 0", "registry 0 0 1")
}

// P26.1: a call is submitted by a user that there is, and nothing more is done with it; by none it is refused with ErrRange.
func TestCall(t *testing.T) {
	plays(t, []string{`call 0 sub "a {1}"`}, "1 ok", "order", "registry 0 0 1")
	plays(t, []string{`call 1 sub "a {1}"`, `call 2 sub "a {1}"`, "call 7 match", "call 0 unsub 1", "drain"},
		"1 ok", "2 refused 2", "3 refused 2", "4 ok", "5 moved 13", "user 0 refused 15", "user 1 number 1", "order 0 1", "registry 1 1 2")
	for users := 1; users <= 8; users++ {
		config := "config 9 9 9 9 1 1 1 " + string(rune('0'+users))
		for who := range 8 {
			call := "call " + string(rune('0'+who)) + " match"
			if who < users {
				tells(t, lines(config, call), "1 ok", "order", "registry 0 0 1")
			} else {
				tells(t, lines(config, call, "drain"), "1 refused 2", "2 moved 0", "order", "registry 0 0 1")
			}
		}
	}
}

// P26.1, P5: calls of each Kind, answered OK.
func TestCallKinds(t *testing.T) {
	plays(t, []string{
		`call 0 sub "a {1}"`, `call 0 sub "!a {1}"`, "call 0 match a=1", `call 0 replace 2 "a [0, 9] | c \"x\"*"`, "call 0 match a=1", "call 0 match c=\"xy\"", "call 0 match c=\"y\"", "call 0 unsub 1", "call 0 match c=\"x\" a=1", "call 0 match", `call 0 sub "a {2}"`, "drain",
	}, all([]string{"1 ok", "2 ok", "3 ok", "4 ok", "5 ok", "6 ok", "7 ok", "8 ok", "9 ok", "10 ok", "11 ok", "12 moved 71"},
		user(0, "number 1", "number 2", "meets 1", "ok", "meets 1 2", "meets 2", "ok", "ok", "meets 2", "ok", "number 3"),
		[]string{"order 0 0 0 0 0 0 0 0 0 0 0", "registry 2 3 4"})...)
}

// P26.1, P5: calls that are submitted, and answered with each of their errors.
func TestCallErrors(t *testing.T) {
	head := lines("config 3 4 2 5 2 1 1 2", "attr a int", "attr c word")
	sub := func(text string) string { return `call 0 sub "` + text + `"` }
	replace := func(id, text string) string { return "call 1 replace " + id + ` "` + text + `"` }
	tells(t, head+lines(sub(""), sub("a {"), sub(deep(4)), sub("z {1}"), sub("c {1}"), sub(wide(5)), "drain", sub(wide(4)), sub(wide(2)), sub(wide(1)), sub(wide(1)), "drain"),
		all([]string{"1 ok", "2 ok", "3 ok", "4 ok", "5 ok", "6 ok", "7 moved 36", "8 ok", "9 ok", "10 ok", "11 ok", "12 moved 26"},
			user(0, "refused 10", "refused 10", "refused 11", "refused 12", "refused 12", "refused 13", "number 1", "refused 14", "number 2", "refused 14"),
			[]string{"order 0 0 0 0 0 0 0 0 0 0", "registry 2 5 3"})...)
	tells(t, head+lines(replace("9", "a"), replace("9", deep(4)), replace("9", "z {1}"), replace("9", wide(5)), replace("9", "a {1}"), sub(wide(2)), sub(wide(2)), "drain", replace("1", "a"), replace("1", deep(4)), replace("1", "a {\\\"x\\\"}"), replace("1", wide(5)), replace("1", wide(4)), replace("1", wide(3)), "call 1 unsub 3", "call 1 unsub 1099511627776", "call 1 unsub 2", "call 1 unsub 2", "drain"),
		all([]string{"1 ok", "2 ok", "3 ok", "4 ok", "5 ok", "6 ok", "7 ok", "8 moved 44", "9 ok", "10 ok", "11 ok", "12 ok", "13 ok", "14 ok", "15 ok", "16 ok", "17 ok", "18 ok", "19 moved 62"},
			user(0, "number 1", "number 2"),
			user(1, "refused 10", "refused 11", "refused 12", "refused 13", "refused 15", "refused 10", "refused 11", "refused 12", "refused 13", "refused 14", "ok", "refused 15", "refused 15", "ok", "refused 15"),
			[]string{"order 0 1 0 1 1 1 1 1 1 1 1 1 1 1 1 1 1", "registry 1 3 3"})...)
	tells(t, head+lines("call 0 match z=1", "call 0 match a=\"1\"", "call 0 match c=1", "call 0 match a=1 a=1", "call 0 match a=1 z=1", "call 0 match", "drain"),
		all([]string{"1 ok", "2 ok", "3 ok", "4 ok", "5 ok", "6 ok", "7 moved 36"}, user(0, "refused 12", "refused 12", "refused 12", "refused 12", "refused 12", "ok"), []string{"order 0 0 0 0 0 0", "registry 0 0 1"})...)
}

// P26.1: steps: as many as the picks, or as are ready; any picks.
func TestStep(t *testing.T) {
	plays(t, []string{"step 0", "step 0 1 -1", `call 0 sub "a {1}"`, "step 0", "step 0 0", "step 5 -7 9223372036854775807", "step -9223372036854775808 0 0 0 0", "step 0"},
		"1 moved 0", "2 moved 0", "3 ok", "4 moved 1", "5 moved 2", "6 moved 3", "7 moved 1", "8 moved 0", "user 0 number 1", "order 0", "registry 1 1 2")
	// What is told behind each step of a call: it is sent, taken, synced, done by both shards, merged, received.
	for count := range 9 {
		picks := "step" + strings.Repeat(" 0", count)
		ops := []string{`call 1 sub "a {1}"`, picks}
		if count == 0 {
			ops = ops[:1]
		}
		want := []string{"1 ok", "2 moved " + string(rune('0'+min(count, 7)))}[:len(ops)]
		switch {
		case count < 2:
			want = append(want, "order", "registry 0 0 1")
		case count < 7:
			want = append(want, "order 1", "registry 1 1 2")
		default:
			want = append(want, "user 1 number 1", "order 1", "registry 1 1 2")
		}
		plays(t, ops, want...)
	}
	// The picks tell whose call is taken first.
	two := []string{`call 0 sub "a {1}"`, "call 1 match a=1", "step 0 0"}
	plays(t, append(two, "step 0", "drain"), "1 ok", "2 ok", "3 moved 2", "4 moved 1", "5 moved 10", "user 0 number 1", "user 1 meets 1", "order 0 1", "registry 1 1 2")
	plays(t, append(two, "step 1", "drain"), "1 ok", "2 ok", "3 moved 2", "4 moved 1", "5 moved 10", "user 0 number 1", "user 1 ok", "order 1 0", "registry 1 1 2")
	plays(t, append(two, "step -1", "drain"), "1 ok", "2 ok", "3 moved 2", "4 moved 1", "5 moved 10", "user 0 number 1", "user 1 ok", "order 1 0", "registry 1 1 2")
}

// P26.1: Drain does all that there is, and nothing, where there is nothing.
func TestDrain(t *testing.T) {
	plays(t, []string{"drain"}, "1 moved 0", "order", "registry 0 0 1")
	plays(t, []string{`call 0 sub "a {1}"`, `call 0 sub "a {2}"`, "drain", "drain", "call 0 match a=2", "step 0 0", "drain"},
		"1 ok", "2 ok", "3 moved 14", "4 moved 0", "5 ok", "6 moved 2", "7 moved 4", "user 0 number 1", "user 0 number 2", "user 0 meets 2", "order 0 0 0", "registry 2 2 3")
	// One step of the journal may do for many changes.
	tells(t, lines("config 9 9 9 9 1 16 16 1", "attr a int", `call 0 sub "a {1}"`, `call 0 sub "a {2}"`, `call 0 sub "a {3}"`, "drain"),
		"1 ok", "2 ok", "3 ok", "4 moved 16", "user 0 number 1", "user 0 number 2", "user 0 number 3", "order 0 0 0", "registry 3 3 4")
}

// P26.1, P5: behind a Stop calls are refused with ErrStopped, and all else goes on; by a user that is none with ErrRange still.
func TestStop(t *testing.T) {
	plays(t, []string{"stop"}, "1 ok", "order", "registry 0 0 1")
	plays(t, []string{`call 0 sub "a {1}"`, `call 0 sub "a {2}"`, "step 0 0", "stop", `call 0 sub "a {3}"`, "call 1 match", "call 2 match", "call 1 unsub 1", "stop", "step 0", "tidy", "arm 9 9", "drain", "stop", "call 0 match", "drain"},
		"1 ok", "2 ok", "3 moved 2", "4 ok", "5 refused 16", "6 refused 16", "7 refused 2", "8 refused 16", "9 ok", "10 moved 1", "11 ok", "12 ok", "13 moved 11", "14 ok", "15 refused 16", "16 moved 0", "user 0 number 1", "user 0 number 2", "order 0 0", "registry 2 2 3")
	// Behind a crash the system is a new one.
	plays(t, []string{"stop", "call 0 match", "crash", "call 0 match", "drain"}, "1 ok", "2 refused 16", "order", "registry 0 0 1", "3 ok", "4 ok", "5 moved 6", "user 0 ok", "order 0", "registry 0 0 1")
}

// P26.1: Tidy, ahead of the steps, between them and behind; behind it nothing waits to be synced.
func TestTidy(t *testing.T) {
	plays(t, []string{"tidy", "tidy"}, "1 ok", "2 ok", "order", "registry 0 0 1")
	plays(t, []string{`call 0 sub "a {1}"`, "step 0 0", "tidy", "drain", "tidy"}, "1 ok", "2 moved 2", "3 ok", "4 moved 4", "5 ok", "user 0 number 1", "order 0", "registry 1 1 2")
	plays(t, []string{`call 0 sub "a {1}"`, "step 0", "tidy", "drain"}, "1 ok", "2 moved 1", "3 ok", "4 moved 6", "user 0 number 1", "order 0", "registry 1 1 2")
}
