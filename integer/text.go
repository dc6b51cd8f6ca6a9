package integer

import (
	"slices"
	"strconv"
	"strings"

	"sparse/api"
)

const (
	groupDigits = 9             // decimal digits that are converted together
	groupBase   = 1_000_000_000 // 10 to the power groupDigits; it fits into a limb
)

// Format returns a in decimal (P1.5).
func Format(a api.Big) string {
	m := trim(a.Mag)
	if len(m) == 0 {
		return "0"
	}
	var s strings.Builder
	if a.Neg {
		s.WriteByte('-')
	}
	g := trim(groups(m))
	s.WriteString(strconv.FormatUint(uint64(g[len(g)-1]), 10))
	for _, v := range slices.Backward(g[:len(g)-1]) {
		digits := strconv.FormatUint(uint64(v), 10)
		s.WriteString(strings.Repeat("0", groupDigits-len(digits)))
		s.WriteString(digits)
	}
	return s.String()
}

// groups returns the little-endian digits of m in the base groupBase; the highest ones may be zero.
func groups(m []uint32) []uint32 {
	power := []uint32{groupBase}
	var powers [][]uint32
	for compare(m, power) >= 0 {
		powers = append(powers, power)
		power = times(power, power)
	}
	out := make([]uint32, 1<<len(powers))
	split(m, powers, out)
	return out
}

// split writes the digits of m in the base groupBase to out, which consists of zeros. The powers are groupBase, its square, the square of that and so on; m is less than the square of the last one, so each division halves the digits that remain.
func split(m []uint32, powers [][]uint32, out []uint32) {
	if len(m) == 0 {
		return
	}
	last := len(powers) - 1
	if last < 0 {
		out[0] = m[0]
		return
	}
	high, low := divide(m, powers[last])
	half := len(out) / 2
	split(low, powers[:last], out[:half])
	split(high, powers[:last], out[half:])
}

// Parse returns the integer of a decimal text (P1.5).
func Parse(s string) (api.Big, api.Errno) {
	if len(s) > api.MaxText {
		return api.Big{}, api.ErrLen
	}
	digits := s
	if s != "" && (s[0] == '+' || s[0] == '-') {
		digits = s[1:]
	}
	if !isDigits(digits) {
		return api.Big{}, api.ErrSyntax
	}
	return signed(s[0] == '-', value(digits)), api.OK
}

// isDigits reports whether s consists of one or more decimal digits.
func isDigits(s string) bool {
	for i := range len(s) {
		if s[i] < '0' || s[i] > '9' {
			return false
		}
	}
	return s != ""
}

// value returns the number of a text of decimal digits.
func value(digits string) []uint32 {
	m := make([]uint32, 0, len(digits)/groupDigits+2) // a group needs less than a limb
	for len(digits) > 0 {
		// The first group is the short one, so that all others have the same base.
		n := (len(digits)-1)%groupDigits + 1
		group := uint32(0)
		for _, c := range []byte(digits[:n]) {
			group = group*10 + uint32(c-'0')
		}
		m = appendGroup(m, group)
		digits = digits[n:]
	}
	return m
}

// appendGroup returns m times groupBase plus group, in the memory of m if it suffices.
func appendGroup(m []uint32, group uint32) []uint32 {
	carry := uint64(group)
	for i, x := range m {
		carry += uint64(x) * groupBase
		m[i] = uint32(carry)
		carry >>= limbBits
	}
	if carry > 0 {
		m = append(m, uint32(carry))
	}
	return m
}
