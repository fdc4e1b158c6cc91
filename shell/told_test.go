package shell_test

import (
	"fmt"
	"strings"
	"testing"
)

// Chapter 26, 'A system tells of itself': no user has received anything, though calls were taken.
func TestNobodyReceived(t *testing.T) {
	plays(t, []string{sub, "call 1 match a=1", "step 0 0"}, "1 ok", "2 ok", "3 moved 2", "order", "registry 0 0 1")
	plays(t, []string{sub, "call 1 match a=1", "step 0 0 0 0 0 0 0"}, "1 ok", "2 ok", "3 moved 7", "order 0 1", "registry 1 1 2")
}

// The users by rising numbers, whoever received first; their answers in order; those that received nothing aren't told.
func TestUsersByNumbers(t *testing.T) {
	tells(t, lines("config 9 9 9 9 1 1 1 8", "attr a int", `call 7 sub "a {1}"`, "drain", "call 3 match a=1", "call 3 unsub 9", "drain", "call 0 match a=1", "drain", `call 7 sub "a {1, 2}"`, "drain", "call 3 match a=1", "call 3 match a=2", "call 3 match a=3", "drain"),
		"1 ok", "2 moved 6", "3 ok", "4 ok", "5 moved 10", "6 ok", "7 moved 5", "8 ok", "9 moved 6", "10 ok", "11 ok", "12 ok", "13 moved 15",
		"user 0 meets 1", "user 3 meets 1", "user 3 refused 15", "user 3 meets 1 2", "user 3 meets 2", "user 3 ok", "user 7 number 1", "user 7 number 2", "order 7 3 3 0 7 3 3 3", "registry 2 2 3")
}

// Each form of an answer: refused, number, meets with one number and with many, ok of a Replace, of an Unsub and of a Match that meets nothing.
func TestForms(t *testing.T) {
	var ops, told, want []string
	add := func(call, answer string) {
		ops = append(ops, call)
		told = append(told, fmt.Sprint(len(ops), " ok"))
		want = append(want, answer)
	}
	ids := ""
	for i := range 120 {
		add(`call 0 sub "a {1}"`, fmt.Sprint("number ", i+1))
		ids += fmt.Sprint(" ", i+1)
	}
	add("call 0 match a=1", "meets"+ids)
	add(`call 0 replace 120 "!a {1}"`, "ok")
	add("call 0 match a=2", "meets 120")
	add("call 0 match", "meets 120")
	add("call 0 unsub 120", "ok")
	add("call 0 match a=2", "ok")
	add("call 0 match", "ok")
	add("call 0 match b=2", "refused 12")
	add("call 0 match a=1", "meets"+strings.TrimSuffix(ids, " 120"))
	add(`call 0 replace 120 "a {1}"`, "refused 15")
	add(`call 0 sub "a {1} | b {1}"`, "refused 12")
	add(`call 0 sub "a {1} | a {2} | a {3}"`, "number 121")
	add("call 0 match a=3", "meets 121")
	ops = append(ops, "drain")
	told = append(told, fmt.Sprint(len(ops), " moved ", 7*len(want)+123))
	told = append(told, user(0, want...)...)
	told = append(told, "order"+strings.Repeat(" 0", len(want)), "registry 120 122 122")
	tells(t, lines("config 9 9 999 999 3 1 1 1", "attr a int")+lines(ops...), told...)
}

// The line of the order: without a call taken, with one, with many; refused calls are taken too, those that were never sent aren't.
func TestOrderLine(t *testing.T) {
	plays(t, []string{"call 0 match", "step 0"}, "1 ok", "2 moved 1", "order", "registry 0 0 1")
	plays(t, []string{"call 0 match z=1", "step 0 0"}, "1 ok", "2 moved 2", "order 0", "registry 0 0 1")
	// The window lets no second call of a user go.
	plays(t, []string{"call 1 match", "call 1 match", "call 0 match", "call 0 match", "step 0 0 0 0 0 0"}, "1 ok", "2 ok", "3 ok", "4 ok", "5 moved 6", "order 0 1", "registry 0 0 1")
	var ops, told []string
	order := "order"
	for i := range 600 {
		who := i * i % 7
		ops = append(ops, fmt.Sprintf("call %d unsub 1", who), "drain")
		told = append(told, fmt.Sprint(2*i+1, " ok"), fmt.Sprint(2*i+2, " moved 5"))
		order += fmt.Sprint(" ", who)
	}
	for who := range 7 {
		for i := range 600 {
			if i*i%7 == who {
				told = append(told, user(who, "refused 15")...)
			}
		}
	}
	tells(t, lines("config 9 9 9 9 1 1 1 8")+lines(ops...), append(told, order, "registry 0 0 1")...)
}

// The line of the registry: how many subscriptions, their widths together, the next number.
func TestRegistryLine(t *testing.T) {
	plays(t, []string{`call 0 sub "(a {1} | a {2}) & (a {3} | c {\"x\"})"`, `call 0 sub "a {1}"`, "call 0 unsub 2", `call 0 replace 1 "a {1} | a {2} | a {3}"`, "drain", "call 0 unsub 1", "drain"},
		"1 ok", "2 ok", "3 ok", "4 ok", "5 moved 28", "6 ok", "7 moved 7", "user 0 number 1", "user 0 number 2", "user 0 ok", "user 0 ok", "user 0 ok", "order 0 0 0 0 0", "registry 0 0 3")
	plays(t, []string{`call 0 sub "(a {1} | a {2}) & (a {3} | c {\"x\"})"`, `call 0 sub "a {1}"`, "drain"}, "1 ok", "2 ok", "3 moved 14", "user 0 number 1", "user 0 number 2", "order 0 0", "registry 2 5 3")
}
