package vars

import (
	"cnc/api"
	"cnc/fixed"
)

// letters contains, for each letter, the number of its local variable, and 0 for a byte that has none.
var letters = [...]int{
	'A': 1, 'B': 2, 'C': 3, 'D': 7, 'E': 8, 'F': 9,
	'H': 11, 'I': 4, 'J': 5, 'K': 6, 'M': 13,
	'Q': 17, 'R': 18, 'S': 19, 'T': 20, 'U': 21,
	'V': 22, 'W': 23, 'X': 24, 'Y': 25, 'Z': 26,
}

// Local returns the number of the local variable that belongs to a letter, or 0.
func Local(letter int) int {
	if letter < 0 || letter >= len(letters) {
		return 0
	}
	return letters[letter]
}

// arguments returns the local variables of a level that begins with args.
func arguments(args []api.Value) (locals, api.Errno) {
	var values locals
	// A variable that is 0 may have been given, too.
	var given [api.Locals]bool
	for _, arg := range args {
		i := Local(arg.Letter) - 1
		switch {
		case i < 0:
			return locals{}, api.ErrArg
		case given[i]:
			return locals{}, api.ErrDuplicate
		case !fixed.Valid(arg.N):
			return locals{}, api.ErrRange
		}
		given[i] = true
		values[i] = arg.N
	}
	return values, api.OK
}
