package modal

import (
	"cnc/api"
	"cnc/fixed"
)

// The numbers of the groups.
const (
	motionGroup   = 1
	planeGroup    = 2
	distanceGroup = 3
	unitsGroup    = 4
	feedingGroup  = 5
	cutterGroup   = 6
	lengthGroup   = 7
	returnGroup   = 8
	systemGroup   = 9
	pathGroup     = 10
	polarGroup    = 11
	turningGroup  = 12
	machineGroup  = 13
	actionGroup   = 14
	stopGroup     = 21
	spindleGroup  = 22
	toolGroup     = 23
	coolantGroup  = 24
	outputGroup   = 25
	lastGroup     = outputGroup

	noGroup = 0
)

// The letters of codes.
const (
	letterG = 'G'
	letterM = 'M'
)

// Group returns the group of a code, or 0 if there is none.
func Group(letter, code int) int {
	switch letter {
	case letterG:
		return groupOfG(code)
	case letterM:
		return groupOfM(code)
	}
	return noGroup
}

func groupOfG(code int) int {
	switch code {
	case 0, 1, 2, 3, 33, 73, 74, 80, 81, 82, 83, 84, 85, 86, 89:
		return motionGroup
	case 17, 18, 19:
		return planeGroup
	case 90, 91:
		return distanceGroup
	case 20, 21:
		return unitsGroup
	case 94, 95:
		return feedingGroup
	case 40, 41, 42:
		return cutterGroup
	case 43, 44, 49:
		return lengthGroup
	case 98, 99:
		return returnGroup
	case 54, 55, 56, 57, 58, 59:
		return systemGroup
	case 61, 64:
		return pathGroup
	case 15, 16:
		return polarGroup
	case 68, 69:
		return turningGroup
	case 53:
		return machineGroup
	case 4, 10, 12, 13, 31, 52, 92:
		return actionGroup
	}
	return noGroup
}

func groupOfM(code int) int {
	switch code {
	case 0, 1, 2, 30:
		return stopGroup
	case 3, 4, 5:
		return spindleGroup
	case 6:
		return toolGroup
	case 7, 8, 9:
		return coolantGroup
	case 62, 63:
		return outputGroup
	}
	return noGroup
}

// codeOf returns the code that a value is, and true, or 0 and false if it is none.
func codeOf(v api.Value) (int, bool) {
	if v.Letter != letterG && v.Letter != letterM {
		return 0, false
	}
	return fixed.Whole(v.N)
}
