package names

import (
	"math"
	"strings"
	"sync"
	"testing"

	"evenhanded/api"
)

// ops, modes and errs are the document's words, told here once more and not taken from the program.
var (
	ops   = strings.Fields("join sporadic leave abort arrive done back tick")
	modes = strings.Fields("pfair early wrap twin")
	errs  = strings.Fields("ok form argument horizon there none full periods weight kind busy idle done leaving overflow")
)

// far are numbers of nothing; some of them have the low bits of a number that is there.
var far = []int{math.MinInt, math.MinInt + 1, -1 << 32, -256, -8, -1, 16, 17, 255, 256, 257, 1<<16 + 1, 1<<32 + 1, math.MaxInt - 1, math.MaxInt}

// questions are all that make tables, some with what is there, some with what is not.
var questions = map[string]func(n *Names){
	"op":           func(n *Names) { n.Op(api.Tick) },
	"no op":        func(n *Names) { n.Op(0) },
	"far op":       func(n *Names) { n.Op(math.MaxInt) },
	"mode":         func(n *Names) { n.Mode(api.Twin) },
	"no mode":      func(n *Names) { n.Mode(-1) },
	"err":          func(n *Names) { n.Err(api.ErrOver) },
	"ok":           func(n *Names) { n.Err(api.OK) },
	"no err":       func(n *Names) { n.Err(-1) },
	"number":       func(n *Names) { n.Number("back") },
	"no number":    func(n *Names) { n.Number("never") },
	"empty number": func(n *Names) { n.Number("") },
}

func word(t *testing.T, what string, i int, got, want string) {
	t.Helper()
	if got != want {
		t.Errorf("%s(%d): %q, want %q", what, i, got, want)
	}
}

func number(t *testing.T, n *Names, s string, want int, there bool) {
	t.Helper()
	if op, ok := n.Number(s); op != want || ok != there {
		t.Errorf("Number(%q): %d, %v, want %d, %v", s, op, ok, want, there)
	}
}

func made(t *testing.T, n *Names, want int) {
	t.Helper()
	if k := n.Made(); k != want {
		t.Errorf("Made: %d, want %d", k, want)
	}
}

// allWords asks for each word that there is.
func allWords(t *testing.T, n *Names) {
	t.Helper()
	for i, w := range ops {
		word(t, "Op", i+1, n.Op(i+1), w)
		number(t, n, w, i+1, true)
	}
	for i, w := range modes {
		word(t, "Mode", i+1, n.Mode(i+1), w)
	}
	for i, w := range errs {
		word(t, "Err", i, n.Err(api.Errno(i)), w)
	}
}

// P9.1: the chapter's example.
func TestExample(t *testing.T) {
	word(t, "Op", 8, New().Op(8), "tick")
}

// P9.1: a command's word, empty for what is none.
func TestOp(t *testing.T) {
	n := New()
	byName := map[int]string{api.Join: "join", api.Sporadic: "sporadic", api.Leave: "leave", api.Abort: "abort",
		api.Arrive: "arrive", api.Done: "done", api.Back: "back", api.Tick: "tick"}
	for op := -20; op <= 40; op++ {
		word(t, "Op", op, n.Op(op), byName[op])
	}
	for _, op := range far {
		word(t, "Op", op, n.Op(op), "")
	}
}

// P9.1: a mode's word, empty for what is none.
func TestMode(t *testing.T) {
	n := New()
	byName := map[int]string{api.Pfair: "pfair", api.Early: "early", api.Wrap: "wrap", api.Twin: "twin"}
	for mode := -20; mode <= 40; mode++ {
		word(t, "Mode", mode, n.Mode(mode), byName[mode])
	}
	for _, mode := range far {
		word(t, "Mode", mode, n.Mode(mode), "")
	}
}

// P9.1: an error's word is api's, that of another one "error".
func TestErr(t *testing.T) {
	n := New()
	for e := -20; e <= 40; e++ {
		want := "error"
		if e >= 0 && e < len(errs) {
			want = errs[e]
		}
		word(t, "Err", e, n.Err(api.Errno(e)), want)
		word(t, "Err as api", e, n.Err(api.Errno(e)), api.Errno(e).Error())
	}
	for _, e := range far {
		word(t, "Err", e, n.Err(api.Errno(e)), "error")
	}
	word(t, "Err", 0, n.Err(api.OK), "ok")
	word(t, "Err", 14, n.Err(api.ErrOver), "overflow")
}

// P9.1: the command of a word, and of its very bytes alone.
func TestNumber(t *testing.T) {
	n := New()
	for i, w := range ops {
		number(t, n, w, i+1, true)
		number(t, n, n.Op(i+1), i+1, true)
		for _, near := range []string{" " + w, w + " ", w + "\n", w + "\x00", w + w, w[1:], w[:len(w)-1],
			strings.ToUpper(w), strings.ToUpper(w[:1]) + w[1:], w + "\xff"} {
			number(t, n, near, 0, false)
		}
	}
	for _, w := range []string{"", " ", "\x00", "\xff\xfe", "1", "8", "error", "ｔick", strings.Repeat("tick", 1<<16)} {
		number(t, n, w, 0, false)
	}
	for _, w := range modes {
		number(t, n, w, 0, false)
	}
	for _, w := range errs {
		if w == "done" {
			number(t, n, w, api.Done, true)
			continue
		}
		number(t, n, w, 0, false)
	}
}

// P9.1: each question makes the tables, whatever it asks for; Made itself is none.
func TestMade(t *testing.T) {
	for what, ask := range questions {
		t.Run(what, func(t *testing.T) {
			n := New()
			for range 3 {
				made(t, n, 0)
			}
			ask(n)
			made(t, n, 1)
			ask(n)
			made(t, n, 1)
			for _, other := range questions {
				other(n)
				made(t, n, 1)
			}
			allWords(t, n)
			made(t, n, 1)
		})
	}
}

// P9.1, R5: what one was asked, another does not tell.
func TestEachItsOwn(t *testing.T) {
	a, b := New(), New()
	if a == b {
		t.Fatal("New: the same one twice")
	}
	a.Op(1)
	made(t, a, 1)
	made(t, b, 0)
	allWords(t, b)
	made(t, b, 1)
	made(t, New(), 0)
}

// R7: a nil one answers zero values, for errors too.
func TestNil(t *testing.T) {
	var n *Names
	for _, i := range append([]int{0, 1, 2, 4, 8, 14, 15}, far...) {
		word(t, "Op", i, n.Op(i), "")
		word(t, "Mode", i, n.Mode(i), "")
		word(t, "Err", i, n.Err(api.Errno(i)), "")
	}
	for _, w := range append([]string{"", "never"}, ops...) {
		number(t, n, w, 0, false)
	}
	made(t, n, 0)
}

// R1: one that New did not make is as one that New made.
func TestUnmade(t *testing.T) {
	var n Names
	made(t, &n, 0)
	allWords(t, &n)
	made(t, &n, 1)
}

// P9.1: of many who are first at one time, one makes the tables, and none sees them half made.
func TestManyFirst(t *testing.T) {
	for range 50 {
		n := New()
		start := make(chan struct{})
		var all sync.WaitGroup
		for range 4 {
			for what, ask := range questions {
				all.Add(1)
				go func() {
					defer all.Done()
					<-start
					before := n.Made()
					if before != 0 && before != 1 {
						t.Errorf("%s: Made ahead of it: %d", what, before)
					}
					ask(n)
					made(t, n, 1)
					allWords(t, n)
					made(t, n, 1)
				}()
			}
		}
		close(start)
		all.Wait()
		made(t, n, 1)
	}
}

// P9.1: Made may be read while others ask: it rises once, never falls.
func TestMadeBeside(t *testing.T) {
	for range 50 {
		n := New()
		start := make(chan struct{})
		var all sync.WaitGroup
		for range 4 {
			all.Add(2)
			go func() {
				defer all.Done()
				<-start
				last := 0
				for range 200 {
					now := n.Made()
					if now < last || now > 1 {
						t.Errorf("Made: %d behind %d", now, last)
					}
					last = now
				}
			}()
			go func() {
				defer all.Done()
				<-start
				allWords(t, n)
			}()
		}
		close(start)
		all.Wait()
		made(t, n, 1)
	}
}
