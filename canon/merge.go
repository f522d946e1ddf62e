package canon

// edge leads to a node: the one from which it leads has it as its child of that number.
type edge struct{ from, number int }

// boxes hold nodes by a number from 0 on. They are filled and emptied again and again, in the same memory.
type boxes struct {
	lists [][]int
	used  []int // the numbers of those that are not empty
}

func (b *boxes) put(number, node int) {
	for number >= len(b.lists) {
		b.lists = append(b.lists, nil)
	}
	if len(b.lists[number]) == 0 {
		b.used = append(b.used, number)
	}
	b.lists[number] = append(b.lists[number], node)
}

// empty hands on what each box holds, and empties it.
func (b *boxes) empty(take func(number int, nodes []int)) {
	for _, number := range b.used {
		take(number, b.lists[number])
		b.lists[number] = b.lists[number][:0]
	}
	b.used = b.used[:0]
}

// refiner parts nodes into ever smaller groups.
type refiner struct {
	edges    [][]edge // by node: those that lead to it
	of       []int    // by node: its group
	place    []int    // by node: its place among its group's members
	members  [][]int  // by group
	byNumber boxes    // nodes, by the number of a child
	byGroup  boxes    // nodes, by their group
}

// merge answers the group of each node: two nodes are of one group just if their trees are the same.
//
// It begins with groups of one label each. Then each group parts the others: those of their members whose child of some
// number is in it from those whose child of that number is not. If a group that had its turn is parted later, only the new
// group gets one more: where the whole and one part of it have parted the others, the other part would part nothing. The
// new group is the smaller part: so a node comes to a new one only as often as its group can be halved.
func merge(trees []tree) []int {
	r := newRefiner(trees)
	for group := 0; group < len(r.members); group++ { // they grow meanwhile
		r.partBy(group)
	}
	return r.of
}

func newRefiner(trees []tree) *refiner {
	r := &refiner{edges: make([][]edge, len(trees)), of: make([]int, len(trees)), place: make([]int, len(trees))}
	groups := map[string]int{}
	for node, t := range trees {
		group, ok := groups[t.label]
		if !ok {
			group = r.newGroup()
			groups[t.label] = group
		}
		r.join(node, group)
		for number, child := range t.children {
			r.edges[child] = append(r.edges[child], edge{from: node, number: number})
		}
	}
	return r
}

func (r *refiner) newGroup() int {
	r.members = append(r.members, nil)
	return len(r.members) - 1
}

func (r *refiner) join(node, group int) {
	r.of[node], r.place[node] = group, len(r.members[group])
	r.members[group] = append(r.members[group], node)
}

// leave takes the node out of its group; the group's last member comes to its place.
func (r *refiner) leave(node int) {
	group, place := r.of[node], r.place[node]
	members := r.members[group]
	last := members[len(members)-1]
	members[place], r.place[last] = last, place
	r.members[group] = members[:len(members)-1]
}

// partBy parts all groups by that one.
func (r *refiner) partBy(group int) {
	for _, node := range r.members[group] {
		for _, e := range r.edges[node] {
			r.byNumber.put(e.number, e.from)
		}
	}
	r.byNumber.empty(func(_ int, nodes []int) { r.part(nodes) })
}

// part parts these nodes from the others of their groups.
func (r *refiner) part(nodes []int) {
	for _, node := range nodes {
		r.byGroup.put(r.of[node], node)
	}
	r.byGroup.empty(r.cut)
}

// cut parts these members of the group, unless they are all of them, from the others.
func (r *refiner) cut(group int, nodes []int) {
	if len(nodes) == len(r.members[group]) {
		return
	}
	other := r.newGroup()
	for _, node := range nodes {
		r.leave(node)
		r.join(node, other)
	}
	if len(r.members[other]) > len(r.members[group]) {
		r.exchange(group, other)
	}
}

// exchange gives each of two groups the other one's members.
func (r *refiner) exchange(a, b int) {
	r.members[a], r.members[b] = r.members[b], r.members[a]
	for _, group := range []int{a, b} {
		for _, node := range r.members[group] {
			r.of[node] = group
		}
	}
}
