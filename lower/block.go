package lower

// Block is the code of a method, a function or the main one. Its last instruction is a Return.
type Block struct {
	Slots  int // variables, the parameters first
	Instrs []Instr
}

// add puts an instruction behind the others, and answers its number.
func (b *Block) add(i Instr) int {
	b.Instrs = append(b.Instrs, i)
	return len(b.Instrs) - 1
}

// hold keeps room for an instruction that can't be told yet, and answers its number.
func (b *Block) hold() int { return b.add(nil) }

// set puts an instruction where room was kept for it.
func (b *Block) set(at int, i Instr) { b.Instrs[at] = i }

// here is the next instruction as a target.
func (b *Block) here() Target { return Target{To: len(b.Instrs)} }

// slot gives a further variable a number.
func (b *Block) slot() Variable {
	v := Variable{Slot: b.Slots}
	b.Slots++
	return v
}
