package subtype

// What distances say beside a length.
const (
	endless = -1 // no way leads to a pair that is no conclusion: it is below
	unknown = -2 // it was met, and is not settled yet
)

// distance is the length of the least way, by premises, from a pair of classes to one that is no conclusion; endless, if
// there is none.
//
// A pair is below just if it is endless: it is the conclusion of one rule at most, so that it can't be below if a way leads
// to one that is none; and the endless pairs are all conclusions whose premises are endless.
func (r *Relation) distance(p pair) int {
	if n, ok := r.numbers[p]; ok {
		return r.distances[n]
	}
	if p[0] == p[1] { // each class is below itself
		return endless
	}
	if !r.concludes(p) {
		return 0
	}
	return r.settle(p)
}

// none ends a list of uses.
const none = -1

// use says that a pair has a premise.
type use struct {
	by    int // the pair's number
	other int // another use of the same premise, or none
}

// search settles a pair together with those that premises lead to from it.
type search struct {
	*Relation
	first int     // the number of the pair with which it begins: all ahead of it are settled
	met   []pair  // by number, from first on
	last  []int   // by number, from first on: the last one of its uses, or none
	uses  []use   // of the premises that it met
	ends  [][]int // by length: the pairs from which a way of that length leads to one that is no conclusion
}

// settle makes the distance of a conclusion known, and answers it.
func (r *Relation) settle(p pair) int {
	s := search{Relation: r, first: len(r.distances)}
	s.meet(p)
	for i := 0; i < len(s.met); i++ { // they grow meanwhile
		s.follow(s.first + i)
	}
	for length := 0; length < len(s.ends); length++ { // they grow meanwhile
		s.fix(length)
	}
	for i := range s.met {
		if s.distances[s.first+i] == unknown {
			s.distances[s.first+i] = endless
		}
	}
	return s.distances[s.first]
}

// meet answers the number of a pair; one that was not met yet gets the next one.
func (s *search) meet(p pair) int {
	n, ok := s.numbers[p]
	if !ok {
		n = len(s.distances)
		s.numbers[p] = n
		s.distances = append(s.distances, unknown)
		s.met = append(s.met, p)
		s.last = append(s.last, none)
	}
	return n
}

// follow goes on from a pair to its premises, unless one of these is no conclusion: then the pair's least way is known.
func (s *search) follow(n int) {
	var premises []pair
	for _, q := range s.premises(s.met[n-s.first]) {
		if q.pair[0] == q.pair[1] {
			continue // of two records that have much in common there may be very many
		}
		if !s.concludes(q.pair) {
			s.end(n, 1)
			return
		}
		premises = append(premises, q.pair)
	}
	for _, q := range premises {
		s.hang(n, s.meet(q))
	}
}

// hang notes that a pair has a premise.
func (s *search) hang(n, premise int) {
	switch d := s.distances[premise]; d {
	case endless:
	case unknown:
		last := &s.last[premise-s.first]
		if *last == none || s.uses[*last].by != n { // a record may have the same premise of very many fields
			s.uses = append(s.uses, use{by: n, other: *last})
			*last = len(s.uses) - 1
		}
	default:
		s.end(n, d+1)
	}
}

// end notes that a way of that length leads from the pair to one that is no conclusion.
func (s *search) end(n, length int) {
	for length >= len(s.ends) {
		s.ends = append(s.ends, nil)
	}
	s.ends[length] = append(s.ends[length], n)
}

// fix settles the pairs whose least way is of that length, when those with lesser ones are settled.
func (s *search) fix(length int) {
	for _, n := range s.ends[length] {
		if s.distances[n] != unknown {
			continue
		}
		s.distances[n] = length
		for u := s.last[n-s.first]; u != none; u = s.uses[u].other {
			s.end(s.uses[u].by, length+1)
		}
	}
}
