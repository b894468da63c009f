package cordic

// steps are the angles whose tangents are 1, 1/2, 1/4 and so on, in 10^-9 degrees.
var steps = [26]int{
	45000000000, 26565051177, 14036243468, 7125016349, 3576334375, 1789910608, 895173710, 447614171, 223810500,
	111905677, 55952892, 27976453, 13988227, 6994114, 3497057, 1748528, 874264, 437132,
	218566, 109283, 54642, 27321, 13660, 6830, 3415, 1708,
}

// ray is a point and an angle z in 10^-9 degrees. The sum of z and the direction of the point stays when the ray turns, but for truncations.
type ray struct{ x, y, z int }

// left turns the ray counterclockwise by step i. It stretches the ray as much as right does, so that the steps stretch every ray alike.
func (r ray) left(i int) ray {
	return ray{r.x - r.y>>i, r.y + r.x>>i, r.z - steps[i]}
}

// right turns the ray clockwise by step i.
func (r ray) right(i int) ray {
	return ray{r.x + r.y>>i, r.y - r.x>>i, r.z + steps[i]}
}

// turnedByZ returns the ray after a turn that uses up z.
func (r ray) turnedByZ() ray {
	for i := range steps {
		if r.z >= 0 {
			r = r.left(i)
		} else {
			r = r.right(i)
		}
	}
	return r
}

// turnedToAxis returns the ray after a turn to the positive x axis: what z has gained is the direction that it had.
func (r ray) turnedToAxis() ray {
	for i := range steps {
		if r.y >= 0 {
			r = r.right(i)
		} else {
			r = r.left(i)
		}
	}
	return r
}
