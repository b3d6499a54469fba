package block_test

import (
	"fmt"
	"math/big"
	"math/rand"
	"slices"
	"testing"

	"equipoise/api"
	"equipoise/block"
)

// factorial returns the product of the numbers from 1 to n.
func factorial(n int) *big.Int { return new(big.Int).MulRange(1, int64(n)) }

// orderChance returns the probability of each order of a block: the product of the factorials of its elements, divided by the factorial of their sum.
func orderChance(elements []int) *big.Rat {
	product := big.NewInt(1)
	for _, n := range elements {
		product.Mul(product, factorial(n))
	}
	return new(big.Rat).SetFrac(product, factorial(total(elements)))
}

// chanceOf returns the sum of the Weights of those of l that have the size and the arm of a choice, which are several if there are equal sizes, divided by that of those that have its size.
func chanceOf(c api.Choice, l []api.Choice) *big.Rat {
	ofArm, sum := 0, 0
	for _, x := range l {
		if x.Size == c.Size {
			sum += x.Weight
		}
		if x.Size == c.Size && x.Arm == c.Arm {
			ofArm += x.Weight
		}
	}
	return big.NewRat(int64(ofArm), int64(sum))
}

// walk visits all choices from a row on until nothing is left, with their arms and the product of their probabilities.
func walk(t *testing.T, d api.Design, row, arms []int, chance *big.Rat, visit func([]int, *big.Rat)) {
	if len(arms) >= slices.Max(d.Sizes)*total(d.Ratio) {
		t.Fatalf("ratio %v, sizes %v: after the choices %v, the row %v is left", d.Ratio, d.Sizes, arms, row)
	}
	l := block.Choices(d, row)
	for _, c := range l {
		left, longer := next(t, d, row, c), append(slices.Clone(arms), c.Arm)
		product := new(big.Rat).Mul(chance, chanceOf(c, l))
		if len(left) == 0 {
			visit(longer, product)
			continue
		}
		walk(t, d, left, longer, product, visit)
	}
}

// TestAllOrders has each order of short blocks of one size: P7.4, P7.5.
func TestAllOrders(t *testing.T) {
	for _, x := range []struct {
		ratio []int
		size  int
	}{
		{[]int{1}, 1}, {[]int{1}, 4}, {[]int{5}, 2}, {[]int{1, 1}, 1}, {[]int{1, 1}, 2}, {[]int{1, 1}, 4}, {[]int{1, 2}, 3}, {[]int{8, 1}, 1}, {[]int{2, 0, 1}, 1}, {[]int{2, 0, 1}, 3},
		{[]int{0, 0, 2}, 4}, {[]int{1, 1, 1}, 2}, {[]int{1, 2, 1}, 2}, {[]int{0, 3, 0, 2}, 2}, {[]int{1, 1, 1, 1}, 1}, {[]int{1, 0, 1, 1, 1}, 2}, {[]int{2, 1, 1, 1, 1, 1}, 1},
	} {
		d, places := design(x.ratio, []int{x.size}), times(x.size, x.ratio)
		name, want, seen := fmt.Sprintf("ratio %v, size %d", x.ratio, x.size), orderChance(places), map[string]bool{}
		walk(t, d, nil, nil, big.NewRat(1, 1), func(arms []int, chance *big.Rat) {
			taken := make([]int, len(x.ratio))
			for _, arm := range arms {
				taken[arm]++
			}
			if !slices.Equal(taken, places) || chance.Cmp(want) != 0 {
				t.Errorf("%s: the order %v has the probability %s, not %s", name, arms, chance, want)
			}
			seen[fmt.Sprint(arms)] = true
		})
		if n := new(big.Rat).SetInt64(int64(len(seen))); n.Mul(n, want).Cmp(big.NewRat(1, 1)) != 0 {
			t.Errorf("%s: %d orders", name, len(seen))
		}
	}
}

// TestSizesAreEven has the sum of the Weights of each size, which is the same for all elements of Sizes: P7.1, P7.5.
func TestSizesAreEven(t *testing.T) {
	for _, ratio := range ratios() {
		for _, sizes := range sizeLists() {
			weights := map[int]int{}
			for _, c := range block.Choices(design(ratio, sizes), nil) {
				weights[c.Size] += c.Weight
			}
			for _, s := range sizes {
				equal := 0
				for _, other := range sizes {
					if other == s {
						equal++
					}
				}
				if weights[s] != equal*total(ratio) {
					t.Errorf("ratio %v, sizes %v: the size %d has the weight %d", ratio, sizes, s, weights[s])
				}
			}
		}
	}
}

// randomDesign returns a design that has blocks.
func randomDesign(r *rand.Rand) api.Design {
	ratio := make([]int, 1+r.Intn(6))
	for total(ratio) == 0 {
		for arm := range ratio {
			ratio[arm] = r.Intn(9) * r.Intn(2)
		}
	}
	sizes := make([]int, 1+r.Intn(3))
	for k := range sizes {
		sizes[k] = 1 + r.Intn(4)
	}
	return design(ratio, sizes)
}

// takeBlock takes a block from the empty row on, each time any of the choices, and checks what is left after each. It returns the product of their probabilities but for which size it has, and the size; taken counts the arms.
func takeBlock(t *testing.T, r *rand.Rand, d api.Design, taken []int) (*big.Rat, int) {
	var row []int
	chance, size, left, at := big.NewRat(1, 1), 0, 0, 0
	for {
		l := block.Choices(d, row)
		c := l[r.Intn(len(l))]
		chance.Mul(chance, chanceOf(c, l))
		row = next(t, d, row, c)
		taken[c.Arm]++
		wantBalance(t, d, taken)
		if at == 0 {
			size, left = c.Size, c.Size*total(d.Ratio)
		} else if c.Size != 0 {
			t.Fatalf("ratio %v, sizes %v: the choice %v, within a block", d.Ratio, d.Sizes, c)
		}
		at++
		if block.Left(row) != left-at || (len(row) == 0) != (left == at) {
			t.Fatalf("ratio %v: after %d of %d places, the row %v", d.Ratio, at, left, row)
		}
		if len(row) == 0 {
			return chance, size
		}
	}
}

// wantBalance checks how much two arms can differ: P7.6.
func wantBalance(t *testing.T, d api.Design, taken []int) {
	t.Helper()
	for a, x := range d.Ratio {
		for b, y := range d.Ratio {
			if taken[a]*y-taken[b]*x > slices.Max(d.Sizes)*x*y {
				t.Fatalf("ratio %v, sizes %v: the arms were taken %v times", d.Ratio, d.Sizes, taken)
			}
		}
	}
}

// TestBlocks takes some blocks one after the other, of all sorts of designs: P7.4, P7.5, P7.6.
func TestBlocks(t *testing.T) {
	r := rand.New(rand.NewSource(7))
	for range 300 {
		d := randomDesign(r)
		taken := make([]int, len(d.Ratio))
		for range 5 {
			before := slices.Clone(taken)
			chance, size := takeBlock(t, r, d, taken)
			places := times(size, d.Ratio)
			if !slices.Contains(d.Sizes, size) || chance.Cmp(orderChance(places)) != 0 {
				t.Fatalf("ratio %v, sizes %v: a block of the size %d has the probability %s, not %s", d.Ratio, d.Sizes, size, chance, orderChance(places))
			}
			for arm, n := range places {
				if taken[arm]-before[arm] != n {
					t.Fatalf("ratio %v, size %d: the arm %d was taken %d times", d.Ratio, size, arm, taken[arm]-before[arm])
				}
			}
		}
	}
}

// TestGreatestDifference takes one arm as long as there is one, and then another: the difference that P7.6 permits is reached, but never exceeded.
func TestGreatestDifference(t *testing.T) {
	for _, sizes := range [][]int{{1}, {4}, {1, 4, 2}} {
		d := design([]int{3, 2}, sizes)
		var row []int
		taken := make([]int, 2)
		for range slices.Max(sizes) * 3 {
			l := block.Choices(d, row)
			c := l[0]
			for _, x := range l {
				if x.Arm == 0 && x.Size == slices.Max(sizes) {
					c = x
				}
			}
			row = next(t, d, row, c)
			taken[c.Arm]++
			wantBalance(t, d, taken)
		}
		if taken[0]*2-taken[1]*3 != slices.Max(sizes)*6 {
			t.Errorf("sizes %v: the arms were taken %v times", sizes, taken)
		}
	}
}
