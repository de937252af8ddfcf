package lathe

import (
	"strings"
	"testing"

	"lathe/api"
)

// checkAny sees that what Compile answers fits together, at any text (P1, P3).
func checkAny(t *testing.T, text string) {
	t.Helper()
	c, e, at := Compile(text)
	if (c != nil) != (e == api.OK) || e == api.OK && at != 0 {
		t.Fatalf("P1: Compile(%q) = %v, %d, %d", text, c, e, at)
	}
	if _, again, there := Compile(text); again != e || there != at {
		t.Fatalf("P2: Compile(%q) = %d, %d, then %d, %d", text, e, at, again, there)
	}
	switch {
	case (e == api.ErrSize) != (len(text) > api.MaxText):
		t.Fatalf("P3: Compile of %d bytes: %d", len(text), e)
	case e == api.ErrSize && at != api.MaxText:
		t.Fatalf("P3: Compile of %d bytes: ErrSize, %d", len(text), at)
	case e == api.ErrSyntax || e == api.ErrNest:
		checkPlace(t, text, e, at)
	case e != api.OK && e != api.ErrForm && e != api.ErrSize:
		t.Fatalf("P3: Compile(%q): %d", text, e)
	}
	if e == api.OK {
		checkMachine(t, text, c.Start())
	}
}

// checkMachine sees that what a machine answers fits together, wherever it is
// held (P1, P4 to P6).
func checkMachine(t *testing.T, text string, m *Machine) {
	t.Helper()
	if l := m.Look(); l != (api.Look{}) {
		t.Fatalf("P4: %q: %+v", text, l)
	}
	for n := range 20 {
		before := m.Look().State
		made, e := m.Run(n)
		l, output := m.Look(), m.Output()
		switch {
		case e != api.OK || made < 0 || made > n || before != api.Running && made != 0:
			t.Fatalf("P5: %q: Run(%d) = %d, %d, state %d before", text, n, made, e, before)
		case l.State == api.Running && made != n, (l.State == api.Failed) != (l.Error != api.OK):
			t.Fatalf("P5, P6: %q: Run(%d) = %d, then %+v", text, n, made, l)
		case l.Depth < 0 || l.Depth > api.MaxDepth || l.State == api.Done && l.Depth != 0:
			t.Fatalf("P6: %q: %+v", text, l)
		case len(l.Value) > api.MaxTold || l.State != api.Done && l.Value != "" || len(output) > api.MaxOutput:
			t.Fatalf("P6: %q: %+v, %q", text, l, output)
		}
	}
}

// checkPlace sees that at a place there is what the error is about, and that
// what stands ahead of it has none: it is whole, or ends too early.
func checkPlace(t *testing.T, text string, e api.Errno, at int) {
	t.Helper()
	if at < 0 || at > len(text) || at == len(text) && e == api.ErrNest {
		t.Fatalf("P3: Compile(%q) = %d, %d: no place", text, e, at)
	}
	if e == api.ErrNest && text[at] != '(' && text[at] != '\'' {
		t.Fatalf("P3: Compile(%q) = ErrNest, %d: no ( or ' there", text, at)
	}
	if at < len(text) && strings.IndexByte(" \n;", text[at]) >= 0 {
		t.Fatalf("P3: Compile(%q) = %d, %d: between pieces", text, e, at)
	}
	_, ahead, place := Compile(text[:at])
	early := ahead == api.ErrSyntax && place == at
	whole := ahead == api.OK || ahead == api.ErrForm
	if !early && (!whole || e == api.ErrNest || at == len(text)) {
		t.Fatalf("P3: Compile(%q) = %d, %d, but ahead of that: %d, %d", text, e, at, ahead, place)
	}
}

// mix gives numbers that are the same at each run.
type mix uint64

func (m *mix) below(n int) int {
	*m = *m*6364136223846793005 + 1442695040888963407
	return int(uint64(*m) >> 33 % uint64(n))
}

func TestAnyBytes(t *testing.T) {
	m := mix(1)
	for range 20000 {
		text := make([]byte, m.below(60))
		for i := range text {
			text[i] = byte(m.below(256))
		}
		checkAny(t, string(text))
	}
}

func TestAnyPieces(t *testing.T) {
	pieces := []string{"(", "(", "(", ")", ")", ")", "'", " ", "\n", ";", "a", "x", "1", "-", "#t", "#", "A", "\x80",
		"(f ", "(if ", "(quote ", "(define ", "(set! ", "(lambda (", "(begin ", "(let ((", " if ", " x ", "()"}
	m := mix(2)
	for range 50000 {
		var text strings.Builder
		for range m.below(80) {
			text.WriteString(pieces[m.below(len(pieces))])
		}
		checkAny(t, text.String())
	}
}

func TestAnyLength(t *testing.T) {
	for _, unit := range []string{"(", "'", "a", "(f ", "()", "'a ", "(lambda (x) ", ";", "\n", "\xff", "(let ((x 1)) "} {
		for n := range 2 * api.MaxText / len(unit) {
			checkAny(t, strings.Repeat(unit, n))
		}
	}
}

func FuzzCompile(f *testing.F) {
	for _, text := range programs() {
		f.Add(text)
	}
	for _, text := range wrong {
		f.Add(text)
	}
	f.Fuzz(checkAny)
}
