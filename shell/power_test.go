package shell_test

import (
	"fmt"
	"testing"
)

// sub is 13 bytes in the journal.
const sub = `call 0 sub "a {1}"`

// P26.1: Arm takes any numbers; with the first one below 1 no act is named, and one far behind is never come to.
func TestArmNamesNone(t *testing.T) {
	for _, arm := range []string{"arm 0 0", "arm 0 5", "arm -1 0", "arm -1 -1", "arm -9223372036854775808 9223372036854775807", "arm 1000 0", "arm 3 0", "arm 9223372036854775807 -9223372036854775808"} {
		plays(t, []string{arm, sub, "drain"}, "1 ok", "2 ok", "3 moved 7", "user 0 number 1", "order 0", "registry 1 1 2")
		// What was named ahead is forgotten.
		plays(t, []string{"arm 1 0", arm, sub, "drain"}, "1 ok", "2 ok", "3 ok", "4 moved 7", "user 0 number 1", "order 0", "registry 1 1 2")
	}
	plays(t, []string{"arm 1 0"}, "1 ok", "order", "registry 0 0 1")
	// What takes no act doesn't come nearer to it.
	plays(t, []string{"arm 1 0", "call 0 match", "call 1 unsub 1", "call 0 sub \"\"", "drain", "step 0", "stop"},
		"1 ok", "2 ok", "3 ok", "4 ok", "5 moved 18", "6 moved 0", "7 ok", "user 0 ok", "user 0 refused 10", "user 1 refused 15", "order 0 1 0", "registry 0 0 1")
}

// P26.1: the power goes at the Append of a take, which isn't told, at the Sync behind it, and at the acts of later calls.
func TestArm(t *testing.T) {
	plays(t, []string{"arm 1 0", sub, "drain"}, "1 ok", "2 ok", "3 moved 2", "order", "down")
	plays(t, []string{"arm 2 0", sub, "drain"}, "1 ok", "2 ok", "3 moved 3", "order 0", "down")
	plays(t, []string{"arm 3 0", sub, "call 1 match a=1", "drain", sub, "drain"}, "1 ok", "2 ok", "3 ok", "4 moved 13", "5 ok", "6 moved 2", "user 0 number 1", "user 1 meets 1", "order 0 1", "down")
	// The other user's Match is taken and done by the shards, and nobody tells it what came of that.
	plays(t, []string{"arm 3 0", sub, "call 1 match a=1", sub, "drain"}, "1 ok", "2 ok", "3 ok", "4 ok", "5 moved 13", "user 0 number 1", "order 0 1", "down")
	plays(t, []string{"arm 9 9", sub, "drain", "arm 2 5", sub, "drain"}, "1 ok", "2 ok", "3 moved 7", "4 ok", "5 ok", "6 moved 3", "user 0 number 1", "order 0 0", "down")
	plays(t, []string{sub, "step 0 0", "arm 1 7", "drain"}, "1 ok", "2 moved 2", "3 ok", "4 moved 1", "order 0", "down")
	plays(t, []string{sub, "step 0 0", "arm 1 7", "step -1 0 0 0"}, "1 ok", "2 moved 2", "3 ok", "4 moved 2", "order 0", "down")
}

// P26.1, P7: the power goes in the middle of an Append, and of what is loose then some is found: the Sub is there just if all its bytes are.
func TestArmInTheMiddle(t *testing.T) {
	for _, part := range []int{-1, 0, 1, 5, 12, 13, 14, 1000} {
		loose := min(max(part, 0), 13)
		for _, choice := range []int{-2, -1, 0, 1, 11, 12, 13, 14, 27, 28} {
			found := "registry 0 0 1"
			if kept := (choice + 28*(loose+1)) % (loose + 1); kept == 13 {
				found = "registry 1 1 2"
			}
			plays(t, []string{fmt.Sprint("arm 1 ", part), sub, "drain", fmt.Sprint("crash ", choice)}, "1 ok", "2 ok", "3 moved 2", "order", "down", "4 ok", "order", found)
		}
	}
}

// P26.1: a system that is down: nothing moves, Stop is done, all else is refused: a call by a user that is none with ErrRange, one behind a Stop with ErrStopped.
func TestDown(t *testing.T) {
	for _, arm := range []string{"arm 1 0", "arm 2 0"} {
		moved, order := "3 moved 2", "order"
		if arm == "arm 2 0" {
			moved, order = "3 moved 3", "order 0"
		}
		plays(t, []string{arm, sub, "drain", sub, "call 1 match", "call 2 match", "step 0 1 -1", "drain", "arm 1 1", "arm 0 0", "tidy", "stop", sub, "call 7 unsub 1", "step 0", "arm -1 0", "tidy", "stop"},
			"1 ok", "2 ok", moved, "4 refused 40", "5 refused 40", "6 refused 2", "7 moved 0", "8 moved 0", "9 refused 40", "10 refused 40", "11 refused 40", "12 ok", "13 refused 16", "14 refused 2", "15 moved 0", "16 refused 40", "17 refused 40", "18 ok", order, "down")
	}
	// What was received ahead is told.
	plays(t, []string{sub, "call 1 sub \"a {2}\"", "drain", "call 1 match a=1", "drain", "arm 1 0", "tidy", "call 0 unsub 1", "drain"},
		"1 ok", "2 ok", "3 moved 14", "4 ok", "5 moved 6", "6 ok", "7 refused 40", "8 refused 40", "9 moved 0", "user 0 number 1", "user 1 number 2", "user 1 meets 1", "order 0 1 1", "down")
}

// P26.1: a crash of a system that is up, with choices and without: what is loose is gone, or is found; users and their calls are new.
func TestCrashUp(t *testing.T) {
	plays(t, []string{"crash"}, "order", "registry 0 0 1", "1 ok", "order", "registry 0 0 1")
	for crash, found := range map[string]string{"crash": "0 0 1", "crash 0": "0 0 1", "crash 12": "0 0 1", "crash 13": "1 1 2", "crash 14": "0 0 1", "crash -1": "1 1 2", "crash -14": "0 0 1", "crash -15": "1 1 2", "crash 13 12 11": "1 1 2", "crash 0 13": "0 0 1"} {
		plays(t, []string{sub, "step 0 0", crash, "drain"}, "1 ok", "2 moved 2", "order 0", "registry 1 1 2", "3 ok", "4 moved 0", "order", "registry "+found)
		// A Sub that was synced is there whatever is chosen.
		plays(t, []string{sub, "step 0 0 0", crash, "drain"}, "1 ok", "2 moved 3", "order 0", "registry 1 1 2", "3 ok", "4 moved 0", "order", "registry 1 1 2")
		// One that wasn't taken is nowhere.
		plays(t, []string{sub, "step 0", crash, "drain"}, "1 ok", "2 moved 1", "order", "registry 0 0 1", "3 ok", "4 moved 0", "order", "registry 0 0 1")
	}
	plays(t, []string{sub, "drain", "crash -1", "call 1 match a=1", "call 0 match a=2", sub, "call 0 unsub 1", "drain", "crash", "call 1 match a=1", "drain"},
		"1 ok", "2 moved 7", "user 0 number 1", "order 0", "registry 1 1 2", "3 ok", "4 ok", "5 ok", "6 ok", "7 ok", "8 moved 26", "user 0 ok", "user 0 number 2", "user 0 ok", "user 1 meets 1", "order 0 1 0 0", "registry 1 1 3", "9 ok", "10 ok", "11 moved 6", "user 1 meets 2", "order 1", "registry 1 1 3")
}

// P26.1, P7: a crash of a system that is down: it goes on with what is found, and nothing is named on its disk.
func TestCrashDown(t *testing.T) {
	down := []string{"arm 2 0", sub, "drain"}
	told := []string{"1 ok", "2 ok", "3 moved 3", "order 0", "down", "4 ok"}
	plays(t, append(down, "crash"), append(told, "order", "registry 0 0 1")...)
	plays(t, append(down, "crash -1"), append(told, "order", "registry 1 1 2")...)
	plays(t, append(down, "crash", sub, "call 1 match a=1", "drain", "tidy"), append(told, "5 ok", "6 ok", "7 moved 13", "8 ok", "user 0 number 1", "user 1 meets 1", "order 0 1", "registry 1 1 2")...)
	plays(t, append(down, "crash 13", sub, "call 1 match a=1", "drain", "arm 1 0"), append(told, "5 ok", "6 ok", "7 moved 13", "8 ok", "user 0 number 2", "user 1 meets 1 2", "order 0 1", "registry 2 2 3")...)
	// Armed, and not come to when the crash came.
	plays(t, []string{"arm 1 0", "crash", sub, "drain"}, "1 ok", "order", "registry 0 0 1", "2 ok", "3 ok", "4 moved 7", "user 0 number 1", "order 0", "registry 1 1 2")
}

// P26.1, P7: crashes one behind the other, each of them told; what was found once is found again.
func TestCrashes(t *testing.T) {
	plays(t, []string{"crash", "crash 1", "crash -1 -1"}, "order", "registry 0 0 1", "1 ok", "order", "registry 0 0 1", "2 ok", "order", "registry 0 0 1", "3 ok", "order", "registry 0 0 1")
	plays(t, []string{sub, "step 0 0", "crash -1", "crash", "crash 5", "call 1 match a=1", "drain"},
		"1 ok", "2 moved 2", "order 0", "registry 1 1 2", "3 ok", "order", "registry 1 1 2", "4 ok", "order", "registry 1 1 2", "5 ok", "6 ok", "7 moved 6", "user 1 meets 1", "order 1", "registry 1 1 2")
	plays(t, []string{"arm 1 0", sub, "drain", "crash", "arm 2 0", sub, "drain", "crash", "arm 3 0", sub, "drain", "tidy", "crash 3"},
		"1 ok", "2 ok", "3 moved 2", "order", "down", "4 ok", "5 ok", "6 ok", "7 moved 3", "order 0", "down", "8 ok", "9 ok", "10 ok", "11 moved 7", "12 refused 40", "user 0 number 1", "order 0", "down", "13 ok", "order", "registry 1 1 2")
	// A number never comes again.
	plays(t, []string{sub, "call 0 unsub 1", "drain", "crash", "crash -1", sub, "drain"},
		"1 ok", "2 ok", "3 moved 14", "user 0 number 1", "user 0 ok", "order 0 0", "registry 0 0 2", "4 ok", "order", "registry 0 0 2", "5 ok", "6 ok", "7 moved 7", "user 0 number 2", "order 0", "registry 1 1 3")
}

// P26.1, P7: Tidy ahead of a crash makes last what was loose; behind one it changes nothing; numbers never come again behind it.
func TestTidyAndCrash(t *testing.T) {
	plays(t, []string{sub, "step 0 0", "tidy", "crash"}, "1 ok", "2 moved 2", "3 ok", "order 0", "registry 1 1 2", "4 ok", "order", "registry 1 1 2")
	plays(t, []string{sub, "step 0 0", "crash -1", "tidy", "crash", "tidy"}, "1 ok", "2 moved 2", "order 0", "registry 1 1 2", "3 ok", "4 ok", "order", "registry 1 1 2", "5 ok", "6 ok", "order", "registry 1 1 2")
	plays(t, []string{sub, sub, "call 0 unsub 2", "drain", "tidy", "crash", "tidy", sub, "drain", "crash"},
		"1 ok", "2 ok", "3 ok", "4 moved 21", "5 ok", "user 0 number 1", "user 0 number 2", "user 0 ok", "order 0 0 0", "registry 1 1 3", "6 ok", "7 ok", "8 ok", "9 moved 7", "user 0 number 3", "order 0", "registry 2 2 4", "10 ok", "order", "registry 2 2 4")
}

// P26.1, P7: the power goes at each of the three acts of Tidy; behind these it doesn't.
func TestTidyRefused(t *testing.T) {
	for n := 1; n <= 3; n++ {
		for _, part := range []int{-1, 0, 3, 6, 19, 1000} {
			for _, crash := range []string{"crash", "crash -1", "crash -1 -1", "crash 0 -1", "crash 4 4"} {
				plays(t, []string{sub, "drain", fmt.Sprintf("arm %d %d", n, part), "tidy", "tidy", crash, "tidy"},
					"1 ok", "2 moved 7", "3 ok", "4 refused 40", "5 refused 40", "user 0 number 1", "order 0", "down", "6 ok", "7 ok", "order", "registry 1 1 2")
			}
		}
	}
	plays(t, []string{"arm 4 0", "tidy", "tidy", "crash", "tidy"}, "1 ok", "2 ok", "3 refused 40", "order", "down", "4 ok", "5 ok", "order", "registry 0 0 1")
}

// P26.1: the choices are for the files by rising names: the one that was to take the journal's place is ahead of the journal.
func TestChoicesByNames(t *testing.T) {
	for crash, found := range map[string]string{"crash": "0 0 1", "crash -1": "0 0 1", "crash -1 0": "0 0 1", "crash 0 -1": "1 1 2", "crash 3 13": "1 1 2", "crash 13 3": "0 0 1"} {
		plays(t, []string{sub, "step 0 0", "arm 1 3", "tidy", crash}, "1 ok", "2 moved 2", "3 ok", "4 refused 40", "order 0", "down", "5 ok", "order", "registry "+found)
	}
}
