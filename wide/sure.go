package wide

import (
	"tailsure/api"
	"tailsure/num"
)

// sureBy is how narrow a span must be that is sure of a number; spare is with how many bits more one reckons than it seems to take; and after so many tries as enough says, narrow will do.
const (
	sureBy = 4
	spare  = 32
	enough = 3
)

// Sure of a number that is made by as many bits as one likes: the least span that has it, if some tries find it; else one that is narrow. A number that is itself one of those over 2 to the power of bits shows so only if it is made without a rest: hence the end of the tries. It ends, if with more bits less is left of what is made: rounding that to bits makes it wider by less than 2.
func Sure(bits int, made func(bits int) api.Span) api.Span {
	more := spare
	for tries := 1; ; tries++ {
		out := To(made(bits+more), bits)
		width := num.Len(num.Sub(out.Hi, out.Lo))
		if width <= 1 || tries >= enough && Narrow(out, sureBy) {
			return out
		}
		more += width + spare
	}
}
