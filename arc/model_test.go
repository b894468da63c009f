package arc_test

import (
	"cmp"
	"math/big"

	"cnc/api"
)

func whole(n int) *big.Int { return big.NewInt(int64(n)) }

func within(v api.Vec) bool {
	for _, n := range components(&v) {
		if *n > edge || *n < -edge {
			return false
		}
	}
	return true
}

func isPlane(plane int) bool { return plane == 17 || plane == 18 || plane == 19 }

// modelOffset is Offset by the words of P13.1.
func modelOffset(plane int, from api.Vec, i, j, k int) (api.Vec, api.Errno) {
	if !isPlane(plane) || !within(from) {
		return api.Vec{}, api.ErrArg
	}
	p, height := flat(plane, from)
	var along int
	var by [2]int
	switch plane {
	case 17:
		along, by = k, [2]int{i, j}
	case 18:
		along, by = j, [2]int{k, i}
	case 19:
		along, by = i, [2]int{j, k}
	}
	if along != 0 {
		return api.Vec{}, api.ErrConflict
	}
	for _, n := range by {
		if whole(n).CmpAbs(whole(4*edge)) > 0 {
			return api.Vec{}, api.ErrRange
		}
	}
	center := solid(plane, pt(p.U+by[0], p.W+by[1]), height)
	if !within(center) {
		return api.Vec{}, api.ErrRange
	}
	return center, api.OK
}

// near returns the floor of a * b / sqrt(n) + 1/2, which is the floor of half of what the floor of twice the quotient and 1 add up to.
func near(a, b, n int) int {
	product := new(big.Int).Mul(whole(2*a), whole(b))
	square := new(big.Int).Mul(product, product)
	var twice *big.Int
	if product.Sign() >= 0 {
		twice = square.Sqrt(square.Div(square, whole(n)))
	} else {
		// The ceiling of a root is the floor of the root of the next lower integer, and 1.
		square.Add(square, whole(n-1)).Div(square, whole(n))
		twice = square.Sqrt(square.Sub(square, whole(1)))
		twice.Neg(twice.Add(twice, whole(1)))
	}
	return int(twice.Add(twice, whole(1)).Rsh(twice, 1).Int64())
}

// modelRadius is Radius by the words of P13.2.
func modelRadius(plane int, from, to api.Vec, dir, r int) (api.Vec, api.Errno) {
	size := new(big.Int).Abs(whole(r))
	if !isPlane(plane) || !within(from) || !within(to) || dir != 1 && dir != -1 || size.Cmp(whole(8)) < 0 || size.Cmp(whole(edge)) > 0 {
		return api.Vec{}, api.ErrArg
	}
	f, height := flat(plane, from)
	t, _ := flat(plane, to)
	du, dw := t.U-f.U, t.W-f.W
	d := du*du + dw*dw
	limit := 2*int(size.Int64()) + 2
	if d == 0 || d > limit*limit {
		return api.Vec{}, api.ErrArc
	}
	g := 0
	if e := 4*r*r - d; e > 0 {
		g = near(e, 1, e) // The square root of e is e divided by it.
	}
	side := dir
	if r < 0 {
		side = -dir
	}
	center := solid(plane, pt(half(f.U+t.U)-side*near(dw, g, 4*d), half(f.W+t.W)+side*near(du, g, 4*d)), height)
	if !within(center) {
		return api.Vec{}, api.ErrRange
	}
	return center, api.OK
}

// half returns the floor of n / 2.
func half(n int) int {
	if n%2 != 0 {
		n--
	}
	return n / 2
}

// modelCheck is Check by the words of P13.3, with roots of more digits than decide.
func modelCheck(it api.Item) api.Errno {
	if it.Kind != 3 || !isPlane(it.Plane) || !within(it.From) || !within(it.To) || !within(it.Center) || it.Dir != 1 && it.Dir != -1 {
		return api.ErrArg
	}
	_, height := flat(it.Plane, it.Center)
	if _, h := flat(it.Plane, it.From); h != height {
		return api.ErrArg
	}
	first, last := modelSpokes(it)
	a, b := root(first), root(last)
	apart := new(big.Float).SetPrec(400).Sub(a, b)
	if a.Cmp(big.NewFloat(8)) < 0 || b.Cmp(big.NewFloat(8)) < 0 || apart.Abs(apart).Cmp(big.NewFloat(4)) > 0 {
		return api.ErrArc
	}
	if it.Full && first != last || !it.Full && angleOf(first).compare(angleOf(last)) == 0 {
		return api.ErrArc
	}
	return api.OK
}

// root returns the length of p. If two lengths differ by 4 they are integers, which it returns exactly.
func root(p api.Pt) *big.Float {
	n := new(big.Float).SetPrec(400).SetInt64(int64(p.U*p.U + p.W*p.W))
	return n.Sqrt(n)
}

// modelSpokes is Spokes by the words of the chapter.
func modelSpokes(it api.Item) (api.Pt, api.Pt) {
	f, _ := flat(it.Plane, it.From)
	t, _ := flat(it.Plane, it.To)
	c, _ := flat(it.Plane, it.Center)
	return pt(f.U-c.U, f.W-c.W), pt(t.U-c.U, t.W-c.W)
}

// angle is the angle of a direction: the quarter that it lies in, and its slope there.
type angle struct {
	quarter int
	slope   *big.Rat
}

// angleOf turns p by quarters until it lies in the first one.
func angleOf(p api.Pt) angle {
	quarter := 0
	for p.U <= 0 || p.W < 0 {
		p = pt(p.W, -p.U)
		quarter++
	}
	return angle{quarter, big.NewRat(int64(p.W), int64(p.U))}
}

func (a angle) compare(b angle) int {
	return cmp.Or(cmp.Compare(a.quarter, b.quarter), a.slope.Cmp(b.slope))
}

// modelInside is Inside by the words of the chapter, with angles from 0 to a full turn.
func modelInside(it api.Item, p api.Pt) bool {
	if it.Full {
		return true
	}
	first, last := modelSpokes(it)
	from, to, x := angleOf(first), angleOf(last), angleOf(p)
	if it.Dir == -1 {
		from, to = to, from
	}
	if from.compare(to) < 0 {
		return from.compare(x) <= 0 && x.compare(to) <= 0
	}
	return from.compare(x) <= 0 || x.compare(to) <= 0
}

// modelExtent is Extent of an arc by the words of P13.6.
func modelExtent(it api.Item) (api.Vec, api.Vec) {
	first, last := modelSpokes(it)
	square := max(first.U*first.U+first.W*first.W, last.U*last.U+last.W*last.W)
	r := int(new(big.Int).Sqrt(whole(square)).Int64())
	if r*r < square {
		r++
	}
	center, _ := flat(it.Plane, it.Center)
	_, height := flat(it.Plane, it.From)
	points := []api.Vec{it.From, it.To}
	for _, d := range []api.Pt{pt(1, 0), pt(0, 1), pt(-1, 0), pt(0, -1)} {
		if modelInside(it, d) {
			points = append(points, solid(it.Plane, pt(center.U+r*d.U, center.W+r*d.W), height))
		}
	}
	return bounds(points)
}

// bounds returns the least and the greatest components of vectors.
func bounds(list []api.Vec) (api.Vec, api.Vec) {
	low, high := list[0], list[0]
	for _, v := range list {
		for i, n := range components(&v) {
			if *n < *components(&low)[i] {
				*components(&low)[i] = *n
			}
			if *n > *components(&high)[i] {
				*components(&high)[i] = *n
			}
		}
	}
	return low, high
}
