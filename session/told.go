package session

import (
	"errors"
	"strconv"
	"strings"

	"coil/api"
)

// placed is a refusal of a text, of a set or of a program.
type placed interface {
	error
	Where() int
}

// refusal tells an error's number, and its place, if it has one.
func refusal(err error) string {
	var why api.Errno
	errors.As(err, &why)
	told := "error " + strconv.Itoa(int(why))
	var at placed
	if errors.As(err, &at) {
		told += " at " + strconv.Itoa(at.Where())
	}
	return told
}

func numbers(list ...int) []string {
	told := make([]string, len(list))
	for i, n := range list {
		told[i] = strconv.Itoa(n)
	}
	return told
}

// steps tells a way into a type, or from pair to pair.
func steps(way []api.Step) []string {
	if len(way) == 0 {
		return []string{"at once"}
	}
	told := make([]string, len(way))
	for i, s := range way {
		told[i] = strconv.Itoa(s.N)
		if s.Name != "" {
			told[i] += ":" + s.Name
		}
	}
	return told
}

// kind tells what a member is.
func kind(m api.Member) []string {
	switch m.Kind {
	case api.MField:
		return []string{"field"}
	case api.MMethod:
		return []string{"method", m.Owner}
	}
	return []string{"iface"}
}

// owner tells whose method a member is: an interface's is nobody's.
func owner(m api.Member) string {
	if m.Kind == api.MMethod {
		return m.Owner
	}
	return "-"
}

// outcome tells what a run came to, if it was one.
func outcome(o api.Outcome) ([]string, error) {
	if o.Why == api.ErrArg || o.Why == api.ErrRange {
		return nil, o.Why
	}
	told := numbers(int(o.Why), o.Steps, len(o.Out))
	if o.Why == api.OK {
		told = append(told, strings.ReplaceAll(o.Value, "\n", `\n`))
	}
	return told, nil
}

// told is how methods were found in the runs by tables.
func (p *program) told() []string {
	return numbers(p.counts.Builds, p.counts.Lookups, p.counts.Calls, p.counts.Pairs)
}

func (p *program) sites() []string {
	var told []string
	for _, s := range p.code.Sites() {
		told = append(told, strconv.Itoa(s.Iface)+":"+strconv.Itoa(s.Method))
	}
	return told
}

func (p *program) casts() []string {
	up, down := p.code.Checked().Casts()
	return numbers(up, down)
}
