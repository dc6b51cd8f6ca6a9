/- What integer.compare does: it compares two numbers by their limbs. -/
import Derived.Test.YtjohpdobnedilaaDoorGa
import Derived.Deep.QuietTactic
import Derived.BigQuiet
import Derived.Laws.Bits64
import Derived.Deep.RegionHeld3
namespace Go.Proofs.YtjohpdobnedilaaDoor
open Go.RowKit

end Go.Proofs.YtjohpdobnedilaaDoor

/- What integer.addTo does: it adds limbs to a block in place. -/
namespace Go.Proofs.YtjohpdobnedilaaDoor
open Go.RowKit

end Go.Proofs.YtjohpdobnedilaaDoor

/- What integer.subFrom does: it takes limbs from a block in place. -/
namespace Go.Proofs.YtjohpdobnedilaaDoor
open Go.RowKit

/-- one limb less another one less the borrow -/
theorem sub_word (x y c : Int) (x0 : 0 ≤ x) (x1 : x < 4294967296) (y0 : 0 ≤ y) (y1 : y < 4294967296) (c0 : 0 ≤ c) (c1 : c ≤ 1) :
    0 ≤ IntKind.u64.wrap (IntKind.u64.wrap (x - y) - c) / 9223372036854775808 ∧ IntKind.u64.wrap (IntKind.u64.wrap (x - y) - c) / 9223372036854775808 ≤ 1 ∧
    IntKind.u64.wrap (IntKind.u64.wrap (x - y) - c) % 4294967296 = x - y - c + 4294967296 * (IntKind.u64.wrap (IntKind.u64.wrap (x - y) - c) / 9223372036854775808) := by
  rw [IntKind.wrap_u64, IntKind.wrap_u64]
  omega

end Go.Proofs.YtjohpdobnedilaaDoor

/- What integer.plus does: the limbs of the sum. -/
namespace Go.Proofs.YtjohpdobnedilaaDoor
open Go.RowKit

theorem splice_zero (n : Nat) (zs : List Int) : splice (List.replicate n 0) 0 zs = zs ++ List.replicate (n - zs.length) 0 := by
  simp [splice]

theorem num_zeros (a n : Nat) : num (limbs a ++ List.replicate n 0) = a := by
  rw [num_append, num_limbs, num_replicate]; omega

theorem sum_fits {a b n m : Nat} (ha : (limbs a).length = n) (hb : (limbs b).length = m) (h : m ≤ n) : (a : Int) + b < 4294967296 ^ (n + 1) := by
  have h1 := limbs_lt a
  have h2 := (limbs_len_le b n).1 (by omega)
  have h3 : (b : Int) < 4294967296 ^ n := by
    have h4 : ((b : Nat) : Int) < ((4294967296 ^ n : Nat) : Int) := Int.ofNat_lt.2 h2
    rw [Int.natCast_pow] at h4
    exact h4
  rw [ha] at h1
  rw [Int.pow_succ]
  omega

end Go.Proofs.YtjohpdobnedilaaDoor

/- What integer.minus does: the limbs of the difference. -/
namespace Go.Proofs.YtjohpdobnedilaaDoor
open Go.RowKit

end Go.Proofs.YtjohpdobnedilaaDoor

/- What integer.Norm does. -/
namespace Go.Proofs.YtjohpdobnedilaaDoor
open Go.RowKit

end Go.Proofs.YtjohpdobnedilaaDoor

/- What integer.Neg and Abs do. -/
namespace Go.Proofs.YtjohpdobnedilaaDoor
open Go.RowKit

end Go.Proofs.YtjohpdobnedilaaDoor

/- What integer.fromWord and FromInt do. -/
namespace Go.Proofs.YtjohpdobnedilaaDoor
open Go.RowKit

theorem num_two (v : Int) : num [v % 4294967296, v / 4294967296] = v := by simp only [num]; omega

end Go.Proofs.YtjohpdobnedilaaDoor
