package dyad

import (
	"sparse/api"
	"sparse/integer"
)

const limbBits = 32

// bad returns the dyad that stands for no number.
func bad() api.Dyad {
	return api.Dyad{Bad: true}
}

// normal returns d in normalized form, or the bad dyad if d is not valid. The result may share memory with d.
func normal(d api.Dyad) api.Dyad {
	if d.Bad {
		return bad()
	}
	return reduce(d.Man, d.Exp)
}

// reduce returns man times 2 to the power exp in normalized form, or the bad dyad if that is not representable. The result may share memory with man.
func reduce(man api.Big, exp int) api.Dyad {
	if integer.Sign(man) == 0 {
		return api.Dyad{}
	}
	// Every int is permitted as exp, so it stands alone on its side of a comparison until it is known to be small.
	zeros := integer.TrailingZeros(man)
	if exp < -api.MaxExp-zeros || exp > api.MaxExp-integer.BitLen(man) {
		return bad()
	}
	return api.Dyad{Man: oddPart(man, zeros), Exp: exp + zeros}
}

// oddPart returns man, which is not zero, normalized and without its trailing zeros. The result may share memory with man.
func oddPart(man api.Big, zeros int) api.Big {
	if zeros == 0 && man.Mag[len(man.Mag)-1] != 0 {
		return man
	}
	// There may be more zeros than integer.Shift permits: whole limbs are dropped here.
	man.Mag = man.Mag[zeros/limbBits:]
	odd, _ := integer.Shift(man, -(zeros % limbBits))
	return odd
}

// top returns the least k such that the absolute value of the normalized d is less than 2 to the power k; for zero it is 0.
func top(d api.Dyad) int {
	return d.Exp + integer.BitLen(d.Man)
}

// aligned returns the normalized a and b as x and y times 2 to the power exp. The results may share memory with a and b.
func aligned(a, b api.Dyad) (x, y api.Big, exp int) {
	switch {
	case integer.Sign(a.Man) == 0:
		return a.Man, b.Man, b.Exp
	case integer.Sign(b.Man) == 0:
		return a.Man, b.Man, a.Exp
	case a.Exp > b.Exp:
		x, _ = integer.Shift(a.Man, a.Exp-b.Exp)
		return x, b.Man, b.Exp
	case a.Exp < b.Exp:
		y, _ = integer.Shift(b.Man, b.Exp-a.Exp)
		return a.Man, y, a.Exp
	}
	return a.Man, b.Man, a.Exp
}
