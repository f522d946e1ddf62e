package value_test

import (
	"strings"
	"testing"

	"coil/api"
)

// TestRuns: P10.2 and P10.3, the chapter's runs.
func TestRuns(t *testing.T) {
	w := made(t, runs, "int", "text", "A", "*A")
	none := w.ptr("*A")
	rec := w.rec("A", none, w.num(5))
	ptr := w.ptr("*A", rec)
	w.isRight(rec, "{next: nil, x: 5}")
	w.isRight(ptr, "&{next: nil, x: 5}")
	w.walks(ptr, w.num(5), api.OK, "x")
	w.walks(none, api.Value{}, api.ErrNil, "x")
	w.walks(ptr, api.Value{}, api.ErrField, "y")
	w.walks(w.num(5), api.Value{}, api.ErrField, "x")
	wrong := w.num(5)
	wrong.Parts = []api.Value{w.num(5)}
	w.isWrong(wrong)
	w.isWrong(w.text(strings.Repeat("a", 4097)))
	w.isRight(w.rec("A", none, w.text("a")), "{next: nil, x: a}")
}

// TestExamples: the chapter's examples.
func TestExamples(t *testing.T) {
	w := all(t)
	w.isRight(w.rec("A", w.ptr("*A"), w.num(0)), "{next: nil, x: 0}")
	w.isWrong(w.rec("A", w.ptr("*A")))
	w.walks(w.chain(2), w.chain(2), api.OK)
	w.isWrong(api.Value{})
	w.isRight(w.rec("E"), "{}")
}
