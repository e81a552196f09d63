package bulk

// mapping is a rule, and what it makes of a value v by a number c.
type mapping struct {
	rule int
	of   func(v, c uint64) uint64
}

// mappingOf tells the mapping by a rule, false of no rule.
func mappingOf(rule int) (mapping, bool) {
	table := [...]mapping{
		{Add, func(v, c uint64) uint64 { return v + c }},
		{Times, func(v, c uint64) uint64 { return v * c }},
		{Floor, func(v, c uint64) uint64 { return max(v, c) }},
		{Cap, func(v, c uint64) uint64 { return min(v, c) }},
		{Fill, func(_, c uint64) uint64 { return c }},
	}
	for _, m := range table {
		if m.rule == rule {
			return m, true
		}
	}
	return mapping{}, false
}
