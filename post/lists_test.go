package post_test

import (
	"encoding/binary"
	"math"
	"math/rand/v2"

	"rubrick/api"
)

// upTo returns the numbers from from on that are less than to, each step-th of them.
func upTo(from, to, step int) []int {
	var l []int
	for v := from; v < to; v += step {
		l = append(l, v)
	}
	return l
}

// without returns l without its element of index i.
func without(l []int, i int) []int {
	return append(append([]int{}, l[:i]...), l[i+1:]...)
}

// rightLists are posting lists: of none, one, few and all numbers, of neighbours and of great differences.
func rightLists() [][]int {
	all := upTo(0, api.MaxDocs, 1)
	l := [][]int{
		nil, {}, {0}, {1}, {126}, {127}, {128}, {129}, {500}, {998}, {999},
		{0, 1}, {0, 127}, {0, 128}, {0, 129}, {0, 998}, {0, 999}, {1, 999}, {998, 999}, {499, 500},
		{0, 3, 4}, {3, 5}, {0, 1, 2, 3}, {7, 8, 9, 300, 301, 302}, {0, 500, 999}, {996, 997, 998, 999},
		all, all[:999], all[1:], all[:127], all[:128], all[873:], without(all, 500),
		upTo(0, api.MaxDocs, 2), upTo(1, api.MaxDocs, 2), upTo(0, api.MaxDocs, 127), upTo(5, api.MaxDocs, 128), upTo(0, api.MaxDocs, 129), upTo(3, api.MaxDocs, 333),
	}
	r := rand.New(rand.NewPCG(9, 1))
	for _, share := range []int{1, 5, 100, 500, 900, 995} {
		for range 5 {
			l = append(l, sample(r, share))
		}
	}
	return l
}

// sample returns a posting list that has share of a thousand numbers, more or less.
func sample(r *rand.Rand, share int) []int {
	var l []int
	for v := range api.MaxDocs {
		if r.IntN(1000) < share {
			l = append(l, v)
		}
	}
	return l
}

// wrongLists are lists that are no posting lists.
func wrongLists() [][]int {
	all := upTo(0, api.MaxDocs, 1)
	double := append([]int{0}, all...)
	return [][]int{
		{-1}, {-2}, {-1000}, {math.MinInt}, {api.MaxDocs}, {api.MaxDocs + 1}, {api.MaxNum}, {math.MaxInt},
		{0, 0}, {1, 1}, {999, 999}, {1, 0}, {2, 1}, {999, 0}, {500, 499}, {0, -1}, {-1, 0}, {-2, -1}, {math.MinInt, math.MaxInt}, {math.MaxInt, math.MinInt},
		{0, api.MaxDocs}, {999, api.MaxDocs}, {0, math.MaxInt}, {math.MinInt, 5}, {5, math.MinInt},
		{0, 1, 1}, {0, 0, 1}, {0, 2, 1}, {1, 2, 0}, {3, 4, 3}, {0, 1, 2, 2}, {4, 3, 2, 1}, {0, 1, -1}, {-1, 0, 1}, {0, 1, 1000}, {0, 1000, 1}, {1000, 0, 1},
		append(append([]int{}, all...), api.MaxDocs), append(append([]int{}, all...), 999), append(append([]int{}, all...), 0), double, append([]int{-1}, all...), make([]int, 2000), append(without(all, 0), 0),
	}
}

// encoded returns the encoding of l as the words say it, by the library's numbers.
func encoded(l []int) string {
	b := binary.AppendUvarint(nil, uint64(len(l)))
	for i, v := range l {
		previous := -1
		if i > 0 {
			previous = l[i-1]
		}
		b = binary.AppendUvarint(b, uint64(v-previous-1))
	}
	return string(b)
}

// numbers returns the encodings of numbers, one behind the other.
func numbers(l ...int) string {
	var b []byte
	for _, v := range l {
		b = binary.AppendUvarint(b, uint64(v))
	}
	return string(b)
}
