package session_test

import (
	"slices"
	"strings"
	"testing"

	"coil/api"
	"coil/session"
)

// TestLines: P15.2, none, one and several lines, each of which does what Do does.
func TestLines(t *testing.T) {
	s := session.New()
	if l := s.Lines(); len(l) != 0 {
		t.Error(l)
	}
	if l := s.Lines([]string{}...); len(l) != 0 {
		t.Error(l)
	}
	if l := s.Lines("classes"); !slices.Equal(l, []string{"error 61"}) {
		t.Error(l)
	}
	if l := s.Lines("", "# x", "defs "+set, "id A", "x", "", "run 1"); !slices.Equal(l, []string{"", "", "ok 4", "ok 0", "error 60", "", "error 61"}) {
		t.Error(l)
	}
	if l := s.Lines("id *bool"); !slices.Equal(l, []string{"ok 4"}) {
		t.Error(l)
	}
	many := slices.Repeat([]string{"id A", "go x"}, 2*api.MaxLines) // a script alone has a limit
	if l := s.Lines(many...); !slices.Equal(l, slices.Repeat([]string{"ok 0", "error 60"}, 2*api.MaxLines)) {
		t.Error(len(l))
	}
	lines := []string{"program " + fourth, "go 9", "go 9", "counts", "sites", "classes", "find x A", "id B", "methods A\n"}
	other := session.New()
	for i, answer := range session.New().Lines(lines...) {
		if want := other.Do(lines[i]); answer != want {
			t.Error(lines[i], answer, want)
		}
	}
}

// TestLongLines: P15.2, each line is as long as Do has it.
func TestLongLines(t *testing.T) {
	whole := "classes" + strings.Repeat(" ", api.MaxText-7)
	if l := session.New().Lines("defs", whole, whole+" ", "classes"); !slices.Equal(l, []string{"ok 0", "ok 0", "error 2", "ok 0"}) {
		t.Error(l)
	}
}

// script fails, unless a script is answered like that.
func script(t *testing.T, text, want string, wantWhy api.Errno) {
	t.Helper()
	if got, why := session.Run(text); got != want || why != wantWhy {
		t.Errorf("%.100q: %.200q %d", text, got, why)
	}
}

// TestScripts: P15.2, scripts with an end of line at their end and without, and with empty lines.
func TestScripts(t *testing.T) {
	script(t, "", "", api.OK)
	script(t, "\n", "\n", api.OK)
	script(t, "\n\n", "\n\n", api.OK)
	script(t, " ", "\n", api.OK)
	script(t, "\r\n", "\n", api.OK)
	script(t, "\n ", "\n\n", api.OK)
	script(t, "classes", "error 61\n", api.OK)
	script(t, "classes\n", "error 61\n", api.OK)
	script(t, "classes\n\n", "error 61\n\n", api.OK)
	script(t, "\nclasses", "\nerror 61\n", api.OK)
	script(t, "\n\nclasses\n\n\n", "\n\nerror 61\n\n\n", api.OK)
	script(t, "defs "+set+"\r\nid A\r\n\r\n# end\r\nbelow A | I", "ok 4\nok 0\n\n\nok yes\n", api.OK)
	script(t, "defs type A = *A;\n\nid A\n# end\nid *int", "ok 1\n\nok 0\n\nok 1\n", api.OK)
	script(t, "id int\ndefs\nid int\nnonsense\nrun 1\nprogram main int {\nreturn 1; }\nrun 1", "error 61\nok 0\nok 0\nerror 60\nerror 61\nerror 14 at 10\nerror 60\nerror 61\n", api.OK)
	script(t, "program "+fourth+"\ngo 9\ngo 9\ncounts\n", "ok 6\nok 0 4 0 7\nok 0 4 0 7\nok 1 1 2 1\n", api.OK)
}

// TestScriptsLimits: P15.2, scripts of just as many bytes and lines as they may have, and of one more.
func TestScriptsLimits(t *testing.T) {
	script(t, strings.Repeat(" ", api.MaxText), "\n", api.OK)
	script(t, strings.Repeat(" ", api.MaxText+1), "", api.ErrLong)
	script(t, strings.Repeat(" ", api.MaxText)+"\n", "", api.ErrLong)
	script(t, strings.Repeat("x", api.MaxText), "error 60\n", api.OK)
	script(t, strings.Repeat("\n", api.MaxText), "", api.ErrMany)
	script(t, strings.Repeat("\n", api.MaxText+1), "", api.ErrLong) // more bytes goes ahead of more lines
	script(t, strings.Repeat("\n", api.MaxLines), strings.Repeat("\n", api.MaxLines), api.OK)
	script(t, strings.Repeat("\n", api.MaxLines)+" ", "", api.ErrMany)
	script(t, strings.Repeat("\n", api.MaxLines+1), "", api.ErrMany)
	script(t, strings.Repeat("\n", api.MaxLines-1)+"classes", strings.Repeat("\n", api.MaxLines-1)+"error 61\n", api.OK)
	script(t, strings.Repeat("\n", api.MaxLines-1)+"classes\n", strings.Repeat("\n", api.MaxLines-1)+"error 61\n", api.OK)
	script(t, strings.Repeat("\n", api.MaxLines-1)+"classes\n\n", "", api.ErrMany)
	script(t, strings.Repeat("classes\n", api.MaxLines), strings.Repeat("error 61\n", api.MaxLines), api.OK)
	script(t, strings.Repeat("classes\n", api.MaxLines)+"classes", "", api.ErrMany)
	line := strings.Repeat("classes \n", api.MaxLines-1)
	script(t, line+strings.Repeat(" ", api.MaxText-len(line)), strings.Repeat("error 61\n", api.MaxLines-1)+"\n", api.OK)
	script(t, line+strings.Repeat(" ", api.MaxText-len(line)+1), "", api.ErrLong)
}

// TestNewSession: P15.2, each script has a session of its own.
func TestNewSession(t *testing.T) {
	script(t, "defs "+set, "ok 4\n", api.OK)
	script(t, "classes", "error 61\n", api.OK)
	s := opened(t, "defs "+set)
	script(t, "classes\ndefs", "error 61\nok 0\n", api.OK)
	plays(t, s, play{"classes", "ok 4"})
}
