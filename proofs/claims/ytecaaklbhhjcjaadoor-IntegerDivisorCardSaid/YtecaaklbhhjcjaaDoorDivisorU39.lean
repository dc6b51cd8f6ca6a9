import Derived.Test.YtecaaklbhhjcjaaDoorDivisorU31
import Derived.Test.YtecaaklbhhjcjaaDoorDivisorU1
import Derived.Test.YtecaaklbhhjcjaaDoorProg
namespace Go.Proofs.YtecaaklbhhjcjaaDoor
open Go.RowKit

set_option maxRecDepth 100000 in
set_option maxHeartbeats 2000000 in
theorem wordGcd_any (a b : Nat) (w : World) (ha : a < 18446744073709551616) (hb : b < 18446744073709551616) :
    Calls Tryd.prog 40 #[.int .u64 (a : Int), .int .u64 (b : Int)] w fun e w' => e = .returned (.int .u64 ((Nat.gcd a b : Nat) : Int)) ∧ Below w.heap.size w w' := by
  obtain ⟨G, hG⟩ : ∃ G : Int, ((Nat.gcd a b : Nat) : Int) = G := ⟨_, rfl⟩
  rw [hG]
  have HG := Lib.hid hG
  clear hG
  go_enter Tryd.func40, Tryd.ntmps40
  go_wp2
  go_loopw [0, 1] (fun x y wr => ∃ p q : Nat, x = .int .u64 (p : Int) ∧ y = .int .u64 (q : Int) ∧ p < 18446744073709551616 ∧ q < 18446744073709551616 ∧ ((Nat.gcd p q : Nat) : Int) = G ∧ Below w.heap.size w wr)
    (fun _ y _ => (intOf y).toNat)
  case atStart => exact ⟨a, b, rfl, rfl, ha, hb, HG.out, Below.refl _ w⟩
  case round =>
    obtain ⟨p, q, rfl, rfl, hp, hq, hg, hE⟩ := hrel
    have HG1 := Lib.hid hg
    have HE := Lib.hid hE
    clear hg hE
    by_cases h0 : q = 0
    · subst h0
      go_wp2
      go_ret
      refine ⟨?_, HE.out⟩
      have := HG1.out
      rw [Nat.gcd_zero_right] at this
      rw [this]; rfl
    · have hq0 : (0 : Int) < q := by omega
      have hqz : ((q : Int) == 0) = false := by apply beq_eq_false_iff_ne.2; omega
      have hm : (p : Int) % (q : Int) = ((p % q : Nat) : Int) := by rw [Int.natCast_emod]
      have hml : p % q < q := Nat.mod_lt _ (by omega)
      obtain ⟨m, hmm⟩ : ∃ m, p % q = m := ⟨_, rfl⟩
      rw [hmm] at hm hml
      have hmg : Nat.gcd q m = Nat.gcd p q := by rw [← hmm, Nat.gcd_comm q, ← Nat.gcd_rec, Nat.gcd_comm]
      have HMG := Lib.hid hmg
      have HM2 := Lib.hid hm
      clear hmg hmm hm
      go_wp2
      go_region
      go_wp2
      go_roundw
      case rel => exact ⟨q, m, rfl, by rw [HM2.out], by omega, by omega, by rw [HMG.out]; exact HG1.out, HE.out.trans ((Below.refl _ _).drew)⟩
      case measure =>
        have := HM2.out
        simp [intOf] <;> omega
end Go.Proofs.YtecaaklbhhjcjaaDoor
