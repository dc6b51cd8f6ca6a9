/- How many bits a dyad has: the helper of the laws. -/
import Derived.Test.YtijbdfcenbekmaaDoorGp
import Derived.Test.YtijbdfcenbekmaaDoorGo
namespace Go.Proofs.YtijbdfcenbekmaaDoor
open Go.RowKit

set_option maxRecDepth 100000 in
set_option maxHeartbeats 2000000 in
theorem dbits_any (u : Value) (d : Dy) (w : World) (hu : Dn w u d) :
    Calls Tryd.prog 15 #[u] w fun e w' => e = .returned (.int .i64 (blen (dm d).natAbs)) ∧ Ext w w' := by
  have hnd := nd_blen hu.1
  obtain ⟨ub, un, uo, uk, uc, uf, rfl⟩ := hu.parts
  obtain ⟨-, -, hm⟩ := hu.get
  have hms : uk ≤ 4096 := by
    rw [← hm.sl.len]
    exact limbs_of_blen (by omega)
  clear hu
  go_enter Tryd.func15, Tryd.ntmps15
  go_upto_region 1 with fail
  obtain ⟨W, hW, hB, hbx, hz⟩ := dbox_new w ub un uo uk uc uf
  rw [← hW]
  clear hW
  have hm := hm.below hB
  have HB := Lib.hid (show Ext w W from hB)
  clear hB
  generalize w.heap.size = B at *
  have k1 := hbx.c1
  have k2 := hbx.c2
  go_wp2_with fail
  refine (refBitLen_any _ _ _ _ _ _ (hm.bg (by omega))).mono ?_
  rintro e w1 ⟨rfl, hw1⟩
  go_wp2
  go_ret
  exact ⟨rfl, HB.out.trans hw1⟩

theorem dbits_bag {W w : World} {L : List DEnt} {u : Value} {d : Dy} (h : DSt W w L) (h1 : ⟨u, d, true⟩ ∈ L) (s : Int) (hs : (blen (dm d).natAbs : Int) = s) :
    Calls Tryd.prog 15 #[u] w fun e w' => e = .returned (.int .i64 s) ∧ DSt W w' L :=
  (dbits_any u d w (h.dn h1)).mono fun _ _ ⟨he, hw⟩ => ⟨by rw [he, hs], h.step hw⟩

theorem refDNorm_bag {W w : World} {L : List DEnt} {u : Value} {d : Dy} (h : DSt W w L) (hu : Dl w u d) :
    Calls Tryd.prog 33 #[u] w fun e w' => ∃ r, e = .returned r ∧ DSt W w' (⟨r, d, true⟩ :: L) :=
  (refDNorm_any u d w hu h.tab).mono fun _ _ ⟨r, he, hr, hw⟩ => ⟨r, he, h.push hw (dok_dn hr)⟩
end Go.Proofs.YtijbdfcenbekmaaDoor
