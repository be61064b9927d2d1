package regular

// set is a set of states; it may be the key of a map.
type set [(MaxStates + 63) / 64]uint64

func setOf(states []int) set {
	var s set
	for _, q := range states {
		s.add(q)
	}
	return s
}

func (s *set) add(q int) { s[q/64] |= 1 << (q % 64) }

// join adds the states of another set.
func (s *set) join(t set) {
	for i := range s {
		s[i] |= t[i]
	}
}

func (s set) has(q int) bool { return s[q/64]>>(q%64)&1 != 0 }

// numbered returns a function that numbers things in the order in which it is asked for them, and puts new ones to a list.
func numbered[K comparable](found *[]K) func(K) int {
	numbers := map[K]int{}
	return func(k K) int {
		i, ok := numbers[k]
		if !ok {
			i = len(*found)
			numbers[k] = i
			*found = append(*found, k)
		}
		return i
	}
}
