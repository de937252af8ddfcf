package lathe

import (
	"slices"
	"strings"
	"sync"
	"testing"

	"lathe/api"
)

// stand is all that can be seen of a machine.
type stand struct {
	look   api.Look
	output string
}

func standOf(m *Machine) stand {
	return stand{m.Look(), strings.Join(m.Output(), "|")}
}

// programs are some that end in each way, and some that do not.
func programs() []string {
	return slices.Concat(right, callCCs(), []string{
		down(20), down(api.MaxDepth), "(define (f) (f)) (f)", "(define (o n) (display n) (o (+ n 1))) (o 0)",
		"(define (f l) (display l) (f (cons (car l) l))) (f '(1))", "(car (cons (display 1) 2) 3)", "(define x (+ 1 2)) y",
	})
}

// P7: for all small a and b.
func TestRunInTwo(t *testing.T) {
	for _, text := range programs() {
		for a := range 30 {
			for b := range 12 {
				one, two := started(t, text), started(t, text)
				made, _ := one.Run(a + b)
				first, _ := two.Run(a)
				then, _ := two.Run(b)
				if made != first+then || standOf(one) != standOf(two) {
					t.Fatalf("P7: %q: Run(%d) = %d, %+v; Run(%d), Run(%d) = %d, %d, %+v", text, a+b, made, standOf(one), a, b, first, then, standOf(two))
				}
			}
		}
	}
}

// P7: with the greatest number that there is, and in many pieces.
func TestRunInPieces(t *testing.T) {
	for _, text := range programs() {
		whole := started(t, text)
		all, _ := whole.Run(api.MaxRun)
		for _, piece := range []int{1, 7, api.MaxRun - 1} {
			m := started(t, text)
			sum := 0
			for left := api.MaxRun; left > 0 && (sum == 0 || m.Look().State == api.Running); left -= piece {
				made, _ := m.Run(min(piece, left))
				sum += made
			}
			if sum != all || standOf(m) != standOf(whole) {
				t.Errorf("P7: %q: at once %d, %+v; by %d %d, %+v", text, all, standOf(whole), piece, sum, standOf(m))
			}
		}
	}
}

// P7: looking on, and calls that fail, change nothing.
func TestNothingBetween(t *testing.T) {
	for _, text := range programs() {
		m, alone := started(t, text), started(t, text)
		for range 30 {
			m.Run(2)
			alone.Run(2)
			want := standOf(alone)
			m.Run(-1)
			m.Run(api.MaxRun + 1)
			m.Run(0)
			if standOf(m) != want || standOf(m) != want {
				t.Fatalf("P1, P7: %q: %+v, want %+v", text, standOf(m), want)
			}
		}
	}
}

// P9: machines of one code, each started and run when its turn comes by chance,
// stand as one that is alone with a code of its own.
func TestMachinesByTurns(t *testing.T) {
	const turns = 60
	k := &maker{4}
	texts := programs()
	for range 300 {
		texts = append(texts, k.program())
	}
	for _, text := range texts {
		alone := started(t, text)
		want := []stand{standOf(alone)}
		for range turns {
			alone.Run(1)
			want = append(want, standOf(alone))
		}
		c, _, _ := Compile(text)
		var machines []*Machine
		at := make([]int, 3)
		for range turns {
			i := k.below(len(at))
			for len(machines) <= i {
				machines = append(machines, c.Start())
			}
			machines[i].Run(1)
			at[i]++
			for j, m := range machines {
				if standOf(m) != want[at[j]] {
					t.Fatalf("P9: %q: machine %d behind %d: %+v, want %+v", text, j, at[j], standOf(m), want[at[j]])
				}
			}
		}
	}
}

// P9: machines of one code may run at the same time.
func TestMachinesAtOnce(t *testing.T) {
	c, _, _ := Compile("(define k #f) (define n 0) (define (f x) (define l '(1 2)) (if (< x 1) l (cons x (f (- x 1))))) " +
		"(display (f (call/cc (lambda (c) (set! k c) 1)))) (set! n (+ n 1)) (if (< n 30) (k n) (f 9))")
	var got [8]stand
	var all sync.WaitGroup
	for i := range got {
		all.Go(func() {
			m := c.Start()
			for m.Look().State == api.Running {
				m.Run(i + 1)
			}
			got[i] = standOf(m)
		})
	}
	all.Wait()
	for i := range got {
		if got[i] != got[0] || got[i].look != (api.Look{State: api.Done, Value: "(9 8 7 6 5 4 3 2 1 1 2)"}) {
			t.Errorf("P9: machine %d: %+v", i, got[i])
		}
	}
}
