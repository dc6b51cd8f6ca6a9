import Derived.Test.YtecaaklbhhjcjaaGreatDoorIRelU27
import Derived.Test.YtecaaklbhhjcjaaGreatDoorIRelU29
import Derived.Test.YtecaaklbhhjcjaaGreatDoorIRelU18
import Derived.Test.YtecaaklbhhjcjaaGreatDoorIRelU13
import Derived.Test.YtecaaklbhhjcjaaGreatDoorIRelU4
namespace Go.Proofs.YtecaaklbhhjcjaaGreatDoor
open Go.RowKit

theorem ext_of_alloc (w : World) (o : Obj) : Ext w (w.alloc o) := (Below.refl _ _).alloc (Nat.le_refl _) o
theorem NBx.ext {w w' : World} {g : Nat} {i : Int} {bb nb : Bool} {ao : Option Addr} {n ca : Nat} {f : Int} (h : NBx w g i bb nb ao n ca f) (hE : Ext w w') : NBx w' g i bb nb ao n ca f := h.below hE
theorem NBx.only {w w' : World} {g h : Nat} {i : Int} {bb nb : Bool} {ao : Option Addr} {n ca : Nat} {f : Int} (hx : NBx w g i bb nb ao n ca f) (ho : Only h w w') (hne : g ≠ h) : NBx w' g i bb nb ao n ca f := by
  unfold NBx
  rw [ho.block g hne]
  exact hx
theorem nin1 {w wn : World} (h : Ext (w.alloc (.cells #[.int .i64 0, .bool false, .bool false, .slice none 0 0, .int .i64 0] 75)) wn) : NBx wn w.heap.size 0 false false none 0 0 0 := (NBx.new w _ _ _ _ _ _ _).ext h
theorem nin2 {w wn : World} (h : Ext ((w.alloc (.cells #[.int .i64 0, .bool false, .bool false, .slice none 0 0, .int .i64 0] 75)).alloc (.cells #[.int .i64 0, .bool false, .bool false, .slice none 0 0, .int .i64 0] 75)) wn) : NBx wn w.heap.size 0 false false none 0 0 0 ∧ NBx wn (w.heap.size + 1) 0 false false none 0 0 0 := by
  refine ⟨((NBx.new w _ _ _ _ _ _ _).ext (ext_of_alloc _ _)).ext h, ?_⟩
  have := (NBx.new (w.alloc (.cells #[.int .i64 0, .bool false, .bool false, .slice none 0 0, .int .i64 0] 75)) 0 false false none 0 0 0).ext h
  simpa using this
theorem ext_of_drew (w : World) : Ext w w.drew := (Below.refl _ _).drew
theorem nin1d {w wn : World} (h : Ext (w.alloc (.cells #[.int .i64 0, .bool false, .bool false, .slice none 0 0, .int .i64 0] 75)).drew wn) : NBx wn w.heap.size 0 false false none 0 0 0 := nin1 ((ext_of_drew _).trans h)
theorem nin2d {w wn : World} (h : Ext ((w.alloc (.cells #[.int .i64 0, .bool false, .bool false, .slice none 0 0, .int .i64 0] 75)).alloc (.cells #[.int .i64 0, .bool false, .bool false, .slice none 0 0, .int .i64 0] 75)).drew wn) : NBx wn w.heap.size 0 false false none 0 0 0 ∧ NBx wn (w.heap.size + 1) 0 false false none 0 0 0 := nin2 ((ext_of_drew _).trans h)
theorem eS5 {V w : World} {g : Nat} {u0 u1 u2 u3 u4 : Value} (hg : V.heap.size ≤ g) (h : Ext V w) : Ext V (((((w.setCell ⟨g, 0, none⟩ u0).setCell ⟨g, 1, none⟩ u1).setCell ⟨g, 2, none⟩ u2).setCell ⟨g, 3, none⟩ u3).setCell ⟨g, 4, none⟩ u4) := Below.trans h ((only_set5 w g u0 u1 u2 u3 u4).below hg)
/-- one of the two is set -/
theorem np_set {g h : Nat} {ab an : Bool} {ao : Option Addr} {ak ac : Nat} {af ai : Int} {ub un : Bool} {uo : Option Addr} {uk uc : Nat} {uf : Int} {vb vn : Bool} {vo : Option Addr} {vk vc : Nat} {vf : Int} {i j : Int} {d e : Dy} {V w : World} (hg : NBx w g ai ab an ao ak ac af) (hh : NBx w h j vb vn vo vk vc vf) (hne : g ≠ h) (hu : Dn w (.agg #[.bool ub, .bool un, .slice uo uk uc, .int .i64 uf]) d) (hv : Dn w (.agg #[.bool vb, .bool vn, .slice vo vk vc, .int .i64 vf]) e) (hE : Ext V w) (h1 : V.heap.size ≤ g) :
    NBx (((((w.setCell ⟨g, 0, none⟩ (.int .i64 i)).setCell ⟨g, 1, none⟩ (.bool ub)).setCell ⟨g, 2, none⟩ (.bool un)).setCell ⟨g, 3, none⟩ (.slice uo uk uc)).setCell ⟨g, 4, none⟩ (.int .i64 uf)) g i ub un uo uk uc uf ∧ NBx (((((w.setCell ⟨g, 0, none⟩ (.int .i64 i)).setCell ⟨g, 1, none⟩ (.bool ub)).setCell ⟨g, 2, none⟩ (.bool un)).setCell ⟨g, 3, none⟩ (.slice uo uk uc)).setCell ⟨g, 4, none⟩ (.int .i64 uf)) h j vb vn vo vk vc vf ∧ Dn (((((w.setCell ⟨g, 0, none⟩ (.int .i64 i)).setCell ⟨g, 1, none⟩ (.bool ub)).setCell ⟨g, 2, none⟩ (.bool un)).setCell ⟨g, 3, none⟩ (.slice uo uk uc)).setCell ⟨g, 4, none⟩ (.int .i64 uf)) (.agg #[.bool ub, .bool un, .slice uo uk uc, .int .i64 uf]) d ∧ Dn (((((w.setCell ⟨g, 0, none⟩ (.int .i64 i)).setCell ⟨g, 1, none⟩ (.bool ub)).setCell ⟨g, 2, none⟩ (.bool un)).setCell ⟨g, 3, none⟩ (.slice uo uk uc)).setCell ⟨g, 4, none⟩ (.int .i64 uf)) (.agg #[.bool vb, .bool vn, .slice vo vk vc, .int .i64 vf]) e ∧ Ext V (((((w.setCell ⟨g, 0, none⟩ (.int .i64 i)).setCell ⟨g, 1, none⟩ (.bool ub)).setCell ⟨g, 2, none⟩ (.bool un)).setCell ⟨g, 3, none⟩ (.slice uo uk uc)).setCell ⟨g, 4, none⟩ (.int .i64 uf)) :=
  ⟨hg.stored i ub un uo uk uc uf, hh.only (only_set5 w g _ _ _ _ _) (Ne.symm hne), hu.only_nbx hg (only_set5 w g _ _ _ _ _), hv.only_nbx hg (only_set5 w g _ _ _ _ _), eS5 h1 hE⟩
theorem np_both {g h : Nat} {ub un : Bool} {uo : Option Addr} {uk uc : Nat} {uf : Int} {vb vn : Bool} {vo : Option Addr} {vk vc : Nat} {vf : Int} {i j : Int} {d e : Dy} {V w : World} (hg : NBx w g 0 false false none 0 0 0) (hh : NBx w h 0 false false none 0 0 0) (hne : g ≠ h) (hu : Dn w (.agg #[.bool ub, .bool un, .slice uo uk uc, .int .i64 uf]) d) (hv : Dn w (.agg #[.bool vb, .bool vn, .slice vo vk vc, .int .i64 vf]) e) (hE : Ext V w) (h1 : V.heap.size ≤ g) (h2 : V.heap.size ≤ h) :
    NBx ((((((((((w.setCell ⟨g, 0, none⟩ (.int .i64 i)).setCell ⟨g, 1, none⟩ (.bool ub)).setCell ⟨g, 2, none⟩ (.bool un)).setCell ⟨g, 3, none⟩ (.slice uo uk uc)).setCell ⟨g, 4, none⟩ (.int .i64 uf)).setCell ⟨h, 0, none⟩ (.int .i64 j)).setCell ⟨h, 1, none⟩ (.bool vb)).setCell ⟨h, 2, none⟩ (.bool vn)).setCell ⟨h, 3, none⟩ (.slice vo vk vc)).setCell ⟨h, 4, none⟩ (.int .i64 vf)) g i ub un uo uk uc uf ∧ NBx ((((((((((w.setCell ⟨g, 0, none⟩ (.int .i64 i)).setCell ⟨g, 1, none⟩ (.bool ub)).setCell ⟨g, 2, none⟩ (.bool un)).setCell ⟨g, 3, none⟩ (.slice uo uk uc)).setCell ⟨g, 4, none⟩ (.int .i64 uf)).setCell ⟨h, 0, none⟩ (.int .i64 j)).setCell ⟨h, 1, none⟩ (.bool vb)).setCell ⟨h, 2, none⟩ (.bool vn)).setCell ⟨h, 3, none⟩ (.slice vo vk vc)).setCell ⟨h, 4, none⟩ (.int .i64 vf)) h j vb vn vo vk vc vf ∧ Dn ((((((((((w.setCell ⟨g, 0, none⟩ (.int .i64 i)).setCell ⟨g, 1, none⟩ (.bool ub)).setCell ⟨g, 2, none⟩ (.bool un)).setCell ⟨g, 3, none⟩ (.slice uo uk uc)).setCell ⟨g, 4, none⟩ (.int .i64 uf)).setCell ⟨h, 0, none⟩ (.int .i64 j)).setCell ⟨h, 1, none⟩ (.bool vb)).setCell ⟨h, 2, none⟩ (.bool vn)).setCell ⟨h, 3, none⟩ (.slice vo vk vc)).setCell ⟨h, 4, none⟩ (.int .i64 vf)) (.agg #[.bool ub, .bool un, .slice uo uk uc, .int .i64 uf]) d ∧ Dn ((((((((((w.setCell ⟨g, 0, none⟩ (.int .i64 i)).setCell ⟨g, 1, none⟩ (.bool ub)).setCell ⟨g, 2, none⟩ (.bool un)).setCell ⟨g, 3, none⟩ (.slice uo uk uc)).setCell ⟨g, 4, none⟩ (.int .i64 uf)).setCell ⟨h, 0, none⟩ (.int .i64 j)).setCell ⟨h, 1, none⟩ (.bool vb)).setCell ⟨h, 2, none⟩ (.bool vn)).setCell ⟨h, 3, none⟩ (.slice vo vk vc)).setCell ⟨h, 4, none⟩ (.int .i64 vf)) (.agg #[.bool vb, .bool vn, .slice vo vk vc, .int .i64 vf]) e ∧ Ext V ((((((((((w.setCell ⟨g, 0, none⟩ (.int .i64 i)).setCell ⟨g, 1, none⟩ (.bool ub)).setCell ⟨g, 2, none⟩ (.bool un)).setCell ⟨g, 3, none⟩ (.slice uo uk uc)).setCell ⟨g, 4, none⟩ (.int .i64 uf)).setCell ⟨h, 0, none⟩ (.int .i64 j)).setCell ⟨h, 1, none⟩ (.bool vb)).setCell ⟨h, 2, none⟩ (.bool vn)).setCell ⟨h, 3, none⟩ (.slice vo vk vc)).setCell ⟨h, 4, none⟩ (.int .i64 vf)) ∧ g ≠ h ∧ V.heap.size ≤ g ∧ V.heap.size ≤ h := by
  have o1 : Only g w (((((w.setCell ⟨g, 0, none⟩ (.int .i64 i)).setCell ⟨g, 1, none⟩ (.bool ub)).setCell ⟨g, 2, none⟩ (.bool un)).setCell ⟨g, 3, none⟩ (.slice uo uk uc)).setCell ⟨g, 4, none⟩ (.int .i64 uf)) := only_set5 w g _ _ _ _ _
  have a := hg.stored i ub un uo uk uc uf
  have b := hh.only o1 (Ne.symm hne)
  have hu1 := hu.only_nbx hg o1
  have hv1 := hv.only_nbx hg o1
  have E1 : Ext V (((((w.setCell ⟨g, 0, none⟩ (.int .i64 i)).setCell ⟨g, 1, none⟩ (.bool ub)).setCell ⟨g, 2, none⟩ (.bool un)).setCell ⟨g, 3, none⟩ (.slice uo uk uc)).setCell ⟨g, 4, none⟩ (.int .i64 uf)) := Below.trans hE (o1.below h1)
  generalize (((((w.setCell ⟨g, 0, none⟩ (.int .i64 i)).setCell ⟨g, 1, none⟩ (.bool ub)).setCell ⟨g, 2, none⟩ (.bool un)).setCell ⟨g, 3, none⟩ (.slice uo uk uc)).setCell ⟨g, 4, none⟩ (.int .i64 uf)) = W at *
  have o2 : Only h W (((((W.setCell ⟨h, 0, none⟩ (.int .i64 j)).setCell ⟨h, 1, none⟩ (.bool vb)).setCell ⟨h, 2, none⟩ (.bool vn)).setCell ⟨h, 3, none⟩ (.slice vo vk vc)).setCell ⟨h, 4, none⟩ (.int .i64 vf)) := only_set5 W h _ _ _ _ _
  exact ⟨a.only o2 hne, b.stored j vb vn vo vk vc vf, hu1.only_nbx b o2, hv1.only_nbx b o2, Below.trans E1 (o2.below h2), hne, h1, h2⟩
theorem np_mix {g : Nat} {ub un : Bool} {uo : Option Addr} {uk uc : Nat} {uf : Int} {vb vn : Bool} {vo : Option Addr} {vk vc : Nat} {vf : Int} {i j : Int} {d e : Dy} {V w : World} (hg : NBx w g 0 false false none 0 0 0) (hu : Dn w (.agg #[.bool ub, .bool un, .slice uo uk uc, .int .i64 uf]) d) (hv : Dn w (.agg #[.bool vb, .bool vn, .slice vo vk vc, .int .i64 vf]) e) (hE : Ext V w) (h1 : V.heap.size ≤ g) :
    NBx ((((((w.setCell ⟨g, 0, none⟩ (.int .i64 i)).setCell ⟨g, 1, none⟩ (.bool ub)).setCell ⟨g, 2, none⟩ (.bool un)).setCell ⟨g, 3, none⟩ (.slice uo uk uc)).setCell ⟨g, 4, none⟩ (.int .i64 uf)).alloc (.cells #[.int .i64 j, .bool vb, .bool vn, .slice vo vk vc, .int .i64 vf] 75)) g i ub un uo uk uc uf ∧ NBx ((((((w.setCell ⟨g, 0, none⟩ (.int .i64 i)).setCell ⟨g, 1, none⟩ (.bool ub)).setCell ⟨g, 2, none⟩ (.bool un)).setCell ⟨g, 3, none⟩ (.slice uo uk uc)).setCell ⟨g, 4, none⟩ (.int .i64 uf)).alloc (.cells #[.int .i64 j, .bool vb, .bool vn, .slice vo vk vc, .int .i64 vf] 75)) w.heap.size j vb vn vo vk vc vf ∧ Dn ((((((w.setCell ⟨g, 0, none⟩ (.int .i64 i)).setCell ⟨g, 1, none⟩ (.bool ub)).setCell ⟨g, 2, none⟩ (.bool un)).setCell ⟨g, 3, none⟩ (.slice uo uk uc)).setCell ⟨g, 4, none⟩ (.int .i64 uf)).alloc (.cells #[.int .i64 j, .bool vb, .bool vn, .slice vo vk vc, .int .i64 vf] 75)) (.agg #[.bool ub, .bool un, .slice uo uk uc, .int .i64 uf]) d ∧ Dn ((((((w.setCell ⟨g, 0, none⟩ (.int .i64 i)).setCell ⟨g, 1, none⟩ (.bool ub)).setCell ⟨g, 2, none⟩ (.bool un)).setCell ⟨g, 3, none⟩ (.slice uo uk uc)).setCell ⟨g, 4, none⟩ (.int .i64 uf)).alloc (.cells #[.int .i64 j, .bool vb, .bool vn, .slice vo vk vc, .int .i64 vf] 75)) (.agg #[.bool vb, .bool vn, .slice vo vk vc, .int .i64 vf]) e ∧ Ext V ((((((w.setCell ⟨g, 0, none⟩ (.int .i64 i)).setCell ⟨g, 1, none⟩ (.bool ub)).setCell ⟨g, 2, none⟩ (.bool un)).setCell ⟨g, 3, none⟩ (.slice uo uk uc)).setCell ⟨g, 4, none⟩ (.int .i64 uf)).alloc (.cells #[.int .i64 j, .bool vb, .bool vn, .slice vo vk vc, .int .i64 vf] 75)) ∧ g ≠ w.heap.size ∧ V.heap.size ≤ g ∧ V.heap.size ≤ w.heap.size := by
  have o1 : Only g w (((((w.setCell ⟨g, 0, none⟩ (.int .i64 i)).setCell ⟨g, 1, none⟩ (.bool ub)).setCell ⟨g, 2, none⟩ (.bool un)).setCell ⟨g, 3, none⟩ (.slice uo uk uc)).setCell ⟨g, 4, none⟩ (.int .i64 uf)) := only_set5 w g _ _ _ _ _
  have a := hg.stored i ub un uo uk uc uf
  have hu1 := hu.only_nbx hg o1
  have hv1 := hv.only_nbx hg o1
  have E1 : Ext V (((((w.setCell ⟨g, 0, none⟩ (.int .i64 i)).setCell ⟨g, 1, none⟩ (.bool ub)).setCell ⟨g, 2, none⟩ (.bool un)).setCell ⟨g, 3, none⟩ (.slice uo uk uc)).setCell ⟨g, 4, none⟩ (.int .i64 uf)) := Below.trans hE (o1.below h1)
  have hs := o1.size
  generalize (((((w.setCell ⟨g, 0, none⟩ (.int .i64 i)).setCell ⟨g, 1, none⟩ (.bool ub)).setCell ⟨g, 2, none⟩ (.bool un)).setCell ⟨g, 3, none⟩ (.slice uo uk uc)).setCell ⟨g, 4, none⟩ (.int .i64 uf)) = W at *
  have hgl := hg.lt
  have hVs : V.heap.size ≤ w.heap.size := Below.size hE
  rw [← hs] at hgl hVs ⊢
  exact ⟨a.ext (ext_of_alloc _ _), NBx.new W j vb vn vo vk vc vf, hu1.ext (ext_of_alloc _ _), hv1.ext (ext_of_alloc _ _), Ext.trans E1 (ext_of_alloc _ _), by omega, h1, hVs⟩
theorem np_new {ub un : Bool} {uo : Option Addr} {uk uc : Nat} {uf : Int} {vb vn : Bool} {vo : Option Addr} {vk vc : Nat} {vf : Int} {i j : Int} {d e : Dy} {V w : World} (hu : Dn w (.agg #[.bool ub, .bool un, .slice uo uk uc, .int .i64 uf]) d) (hv : Dn w (.agg #[.bool vb, .bool vn, .slice vo vk vc, .int .i64 vf]) e) (hE : Ext V w) :
    NBx ((w.alloc (.cells #[.int .i64 i, .bool ub, .bool un, .slice uo uk uc, .int .i64 uf] 75)).alloc (.cells #[.int .i64 j, .bool vb, .bool vn, .slice vo vk vc, .int .i64 vf] 75)) w.heap.size i ub un uo uk uc uf ∧ NBx ((w.alloc (.cells #[.int .i64 i, .bool ub, .bool un, .slice uo uk uc, .int .i64 uf] 75)).alloc (.cells #[.int .i64 j, .bool vb, .bool vn, .slice vo vk vc, .int .i64 vf] 75)) (w.heap.size + 1) j vb vn vo vk vc vf ∧ Dn ((w.alloc (.cells #[.int .i64 i, .bool ub, .bool un, .slice uo uk uc, .int .i64 uf] 75)).alloc (.cells #[.int .i64 j, .bool vb, .bool vn, .slice vo vk vc, .int .i64 vf] 75)) (.agg #[.bool ub, .bool un, .slice uo uk uc, .int .i64 uf]) d ∧ Dn ((w.alloc (.cells #[.int .i64 i, .bool ub, .bool un, .slice uo uk uc, .int .i64 uf] 75)).alloc (.cells #[.int .i64 j, .bool vb, .bool vn, .slice vo vk vc, .int .i64 vf] 75)) (.agg #[.bool vb, .bool vn, .slice vo vk vc, .int .i64 vf]) e ∧ Ext V ((w.alloc (.cells #[.int .i64 i, .bool ub, .bool un, .slice uo uk uc, .int .i64 uf] 75)).alloc (.cells #[.int .i64 j, .bool vb, .bool vn, .slice vo vk vc, .int .i64 vf] 75)) ∧ w.heap.size ≠ (w.heap.size + 1) ∧ V.heap.size ≤ w.heap.size ∧ V.heap.size ≤ (w.heap.size + 1) := by
  refine ⟨(NBx.new w i ub un uo uk uc uf).ext (ext_of_alloc _ _), ?_, (hu.ext (ext_of_alloc _ _)).ext (ext_of_alloc _ _), (hv.ext (ext_of_alloc _ _)).ext (ext_of_alloc _ _), Ext.trans (Ext.trans hE (ext_of_alloc _ _)) (ext_of_alloc _ _), by omega, Below.size hE, by have h9 : V.heap.size ≤ w.heap.size := Below.size hE; omega⟩
  have := NBx.new (w.alloc (.cells #[.int .i64 i, .bool ub, .bool un, .slice uo uk uc, .int .i64 uf] 75)) j vb vn vo vk vc vf
  simpa using this
end Go.Proofs.YtecaaklbhhjcjaaGreatDoor

namespace Go.Proofs.YtecaaklbhhjcjaaGreatDoor
open Go.RowKit

theorem DBox.onlyN {w w' : World} {g h : Nat} {bb nb : Bool} {ao : Option Addr} {n ca : Nat} {f : Int} (hx : DBox w g bb nb ao n ca f) (ho : Only h w w') (hne : g ≠ h) : DBox w' g bb nb ao n ca f := by
  unfold DBox
  rw [ho.block g hne]
  exact hx
theorem din1 {w wn : World} (h : Ext (w.alloc (.cells #[.bool false, .bool false, .slice none 0 0, .int .i64 0] 47)) wn) : DBox wn w.heap.size false false none 0 0 0 := (DBox.new w _ _ _ _ _ _).ext h
theorem din2 {w wn : World} (h : Ext ((w.alloc (.cells #[.bool false, .bool false, .slice none 0 0, .int .i64 0] 47)).alloc (.cells #[.bool false, .bool false, .slice none 0 0, .int .i64 0] 47)) wn) : DBox wn w.heap.size false false none 0 0 0 ∧ DBox wn (w.heap.size + 1) false false none 0 0 0 := by
  refine ⟨((DBox.new w _ _ _ _ _ _).ext (ext_of_alloc _ _)).ext h, ?_⟩
  have := (DBox.new (w.alloc (.cells #[.bool false, .bool false, .slice none 0 0, .int .i64 0] 47)) false false none 0 0 0).ext h
  simpa using this
theorem din1d {w wn : World} (h : Ext (w.alloc (.cells #[.bool false, .bool false, .slice none 0 0, .int .i64 0] 47)).drew wn) : DBox wn w.heap.size false false none 0 0 0 := din1 ((ext_of_drew _).trans h)
theorem din2d {w wn : World} (h : Ext ((w.alloc (.cells #[.bool false, .bool false, .slice none 0 0, .int .i64 0] 47)).alloc (.cells #[.bool false, .bool false, .slice none 0 0, .int .i64 0] 47)).drew wn) : DBox wn w.heap.size false false none 0 0 0 ∧ DBox wn (w.heap.size + 1) false false none 0 0 0 := din2 ((ext_of_drew _).trans h)
theorem eS4 {V w : World} {g : Nat} {u0 u1 u2 u3 : Value} (hg : V.heap.size ≤ g) (h : Ext V w) : Ext V ((((w.setCell ⟨g, 0, none⟩ u0).setCell ⟨g, 1, none⟩ u1).setCell ⟨g, 2, none⟩ u2).setCell ⟨g, 3, none⟩ u3) := Below.trans h ((only_set4 w g u0 u1 u2 u3).below hg)
theorem dp_set {g h : Nat} {ab an : Bool} {ao : Option Addr} {ak ac : Nat} {af : Int} {ub un : Bool} {uo : Option Addr} {uk uc : Nat} {uf : Int} {vb vn : Bool} {vo : Option Addr} {vk vc : Nat} {vf : Int} {d e : Dy} {V w : World} (hg : DBox w g ab an ao ak ac af) (hh : DBox w h vb vn vo vk vc vf) (hne : g ≠ h) (hu : Dn w (.agg #[.bool ub, .bool un, .slice uo uk uc, .int .i64 uf]) d) (hv : Dn w (.agg #[.bool vb, .bool vn, .slice vo vk vc, .int .i64 vf]) e) (hE : Ext V w) (h1 : V.heap.size ≤ g) :
    DBox ((((w.setCell ⟨g, 0, none⟩ (.bool ub)).setCell ⟨g, 1, none⟩ (.bool un)).setCell ⟨g, 2, none⟩ (.slice uo uk uc)).setCell ⟨g, 3, none⟩ (.int .i64 uf)) g ub un uo uk uc uf ∧ DBox ((((w.setCell ⟨g, 0, none⟩ (.bool ub)).setCell ⟨g, 1, none⟩ (.bool un)).setCell ⟨g, 2, none⟩ (.slice uo uk uc)).setCell ⟨g, 3, none⟩ (.int .i64 uf)) h vb vn vo vk vc vf ∧ Dn ((((w.setCell ⟨g, 0, none⟩ (.bool ub)).setCell ⟨g, 1, none⟩ (.bool un)).setCell ⟨g, 2, none⟩ (.slice uo uk uc)).setCell ⟨g, 3, none⟩ (.int .i64 uf)) (.agg #[.bool ub, .bool un, .slice uo uk uc, .int .i64 uf]) d ∧ Dn ((((w.setCell ⟨g, 0, none⟩ (.bool ub)).setCell ⟨g, 1, none⟩ (.bool un)).setCell ⟨g, 2, none⟩ (.slice uo uk uc)).setCell ⟨g, 3, none⟩ (.int .i64 uf)) (.agg #[.bool vb, .bool vn, .slice vo vk vc, .int .i64 vf]) e ∧ Ext V ((((w.setCell ⟨g, 0, none⟩ (.bool ub)).setCell ⟨g, 1, none⟩ (.bool un)).setCell ⟨g, 2, none⟩ (.slice uo uk uc)).setCell ⟨g, 3, none⟩ (.int .i64 uf)) :=
  ⟨hg.stored ub un uo uk uc uf, hh.onlyN (only_set4 w g _ _ _ _) (Ne.symm hne), hu.only_dbox hg (only_set4 w g _ _ _ _), hv.only_dbox hg (only_set4 w g _ _ _ _), eS4 h1 hE⟩
theorem dp_both {g h : Nat} {ub un : Bool} {uo : Option Addr} {uk uc : Nat} {uf : Int} {vb vn : Bool} {vo : Option Addr} {vk vc : Nat} {vf : Int} {d e : Dy} {V w : World} (hg : DBox w g false false none 0 0 0) (hh : DBox w h false false none 0 0 0) (hne : g ≠ h) (hu : Dn w (.agg #[.bool ub, .bool un, .slice uo uk uc, .int .i64 uf]) d) (hv : Dn w (.agg #[.bool vb, .bool vn, .slice vo vk vc, .int .i64 vf]) e) (hE : Ext V w) (h1 : V.heap.size ≤ g) (h2 : V.heap.size ≤ h) :
    DBox ((((((((w.setCell ⟨g, 0, none⟩ (.bool ub)).setCell ⟨g, 1, none⟩ (.bool un)).setCell ⟨g, 2, none⟩ (.slice uo uk uc)).setCell ⟨g, 3, none⟩ (.int .i64 uf)).setCell ⟨h, 0, none⟩ (.bool vb)).setCell ⟨h, 1, none⟩ (.bool vn)).setCell ⟨h, 2, none⟩ (.slice vo vk vc)).setCell ⟨h, 3, none⟩ (.int .i64 vf)) g ub un uo uk uc uf ∧ DBox ((((((((w.setCell ⟨g, 0, none⟩ (.bool ub)).setCell ⟨g, 1, none⟩ (.bool un)).setCell ⟨g, 2, none⟩ (.slice uo uk uc)).setCell ⟨g, 3, none⟩ (.int .i64 uf)).setCell ⟨h, 0, none⟩ (.bool vb)).setCell ⟨h, 1, none⟩ (.bool vn)).setCell ⟨h, 2, none⟩ (.slice vo vk vc)).setCell ⟨h, 3, none⟩ (.int .i64 vf)) h vb vn vo vk vc vf ∧ Dn ((((((((w.setCell ⟨g, 0, none⟩ (.bool ub)).setCell ⟨g, 1, none⟩ (.bool un)).setCell ⟨g, 2, none⟩ (.slice uo uk uc)).setCell ⟨g, 3, none⟩ (.int .i64 uf)).setCell ⟨h, 0, none⟩ (.bool vb)).setCell ⟨h, 1, none⟩ (.bool vn)).setCell ⟨h, 2, none⟩ (.slice vo vk vc)).setCell ⟨h, 3, none⟩ (.int .i64 vf)) (.agg #[.bool ub, .bool un, .slice uo uk uc, .int .i64 uf]) d ∧ Dn ((((((((w.setCell ⟨g, 0, none⟩ (.bool ub)).setCell ⟨g, 1, none⟩ (.bool un)).setCell ⟨g, 2, none⟩ (.slice uo uk uc)).setCell ⟨g, 3, none⟩ (.int .i64 uf)).setCell ⟨h, 0, none⟩ (.bool vb)).setCell ⟨h, 1, none⟩ (.bool vn)).setCell ⟨h, 2, none⟩ (.slice vo vk vc)).setCell ⟨h, 3, none⟩ (.int .i64 vf)) (.agg #[.bool vb, .bool vn, .slice vo vk vc, .int .i64 vf]) e ∧ Ext V ((((((((w.setCell ⟨g, 0, none⟩ (.bool ub)).setCell ⟨g, 1, none⟩ (.bool un)).setCell ⟨g, 2, none⟩ (.slice uo uk uc)).setCell ⟨g, 3, none⟩ (.int .i64 uf)).setCell ⟨h, 0, none⟩ (.bool vb)).setCell ⟨h, 1, none⟩ (.bool vn)).setCell ⟨h, 2, none⟩ (.slice vo vk vc)).setCell ⟨h, 3, none⟩ (.int .i64 vf)) ∧ g ≠ h ∧ V.heap.size ≤ g ∧ V.heap.size ≤ h := by
  have o1 : Only g w ((((w.setCell ⟨g, 0, none⟩ (.bool ub)).setCell ⟨g, 1, none⟩ (.bool un)).setCell ⟨g, 2, none⟩ (.slice uo uk uc)).setCell ⟨g, 3, none⟩ (.int .i64 uf)) := only_set4 w g _ _ _ _
  have a := hg.stored ub un uo uk uc uf
  have b := hh.onlyN o1 (Ne.symm hne)
  have hu1 := hu.only_dbox hg o1
  have hv1 := hv.only_dbox hg o1
  have E1 : Ext V ((((w.setCell ⟨g, 0, none⟩ (.bool ub)).setCell ⟨g, 1, none⟩ (.bool un)).setCell ⟨g, 2, none⟩ (.slice uo uk uc)).setCell ⟨g, 3, none⟩ (.int .i64 uf)) := Below.trans hE (o1.below h1)
  generalize ((((w.setCell ⟨g, 0, none⟩ (.bool ub)).setCell ⟨g, 1, none⟩ (.bool un)).setCell ⟨g, 2, none⟩ (.slice uo uk uc)).setCell ⟨g, 3, none⟩ (.int .i64 uf)) = W at *
  have o2 : Only h W ((((W.setCell ⟨h, 0, none⟩ (.bool vb)).setCell ⟨h, 1, none⟩ (.bool vn)).setCell ⟨h, 2, none⟩ (.slice vo vk vc)).setCell ⟨h, 3, none⟩ (.int .i64 vf)) := only_set4 W h _ _ _ _
  exact ⟨a.onlyN o2 hne, b.stored vb vn vo vk vc vf, hu1.only_dbox b o2, hv1.only_dbox b o2, Below.trans E1 (o2.below h2), hne, h1, h2⟩
theorem dp_mix {g : Nat} {ub un : Bool} {uo : Option Addr} {uk uc : Nat} {uf : Int} {vb vn : Bool} {vo : Option Addr} {vk vc : Nat} {vf : Int} {d e : Dy} {V w : World} (hg : DBox w g false false none 0 0 0) (hu : Dn w (.agg #[.bool ub, .bool un, .slice uo uk uc, .int .i64 uf]) d) (hv : Dn w (.agg #[.bool vb, .bool vn, .slice vo vk vc, .int .i64 vf]) e) (hE : Ext V w) (h1 : V.heap.size ≤ g) :
    DBox (((((w.setCell ⟨g, 0, none⟩ (.bool ub)).setCell ⟨g, 1, none⟩ (.bool un)).setCell ⟨g, 2, none⟩ (.slice uo uk uc)).setCell ⟨g, 3, none⟩ (.int .i64 uf)).alloc (.cells #[.bool vb, .bool vn, .slice vo vk vc, .int .i64 vf] 47)) g ub un uo uk uc uf ∧ DBox (((((w.setCell ⟨g, 0, none⟩ (.bool ub)).setCell ⟨g, 1, none⟩ (.bool un)).setCell ⟨g, 2, none⟩ (.slice uo uk uc)).setCell ⟨g, 3, none⟩ (.int .i64 uf)).alloc (.cells #[.bool vb, .bool vn, .slice vo vk vc, .int .i64 vf] 47)) w.heap.size vb vn vo vk vc vf ∧ Dn (((((w.setCell ⟨g, 0, none⟩ (.bool ub)).setCell ⟨g, 1, none⟩ (.bool un)).setCell ⟨g, 2, none⟩ (.slice uo uk uc)).setCell ⟨g, 3, none⟩ (.int .i64 uf)).alloc (.cells #[.bool vb, .bool vn, .slice vo vk vc, .int .i64 vf] 47)) (.agg #[.bool ub, .bool un, .slice uo uk uc, .int .i64 uf]) d ∧ Dn (((((w.setCell ⟨g, 0, none⟩ (.bool ub)).setCell ⟨g, 1, none⟩ (.bool un)).setCell ⟨g, 2, none⟩ (.slice uo uk uc)).setCell ⟨g, 3, none⟩ (.int .i64 uf)).alloc (.cells #[.bool vb, .bool vn, .slice vo vk vc, .int .i64 vf] 47)) (.agg #[.bool vb, .bool vn, .slice vo vk vc, .int .i64 vf]) e ∧ Ext V (((((w.setCell ⟨g, 0, none⟩ (.bool ub)).setCell ⟨g, 1, none⟩ (.bool un)).setCell ⟨g, 2, none⟩ (.slice uo uk uc)).setCell ⟨g, 3, none⟩ (.int .i64 uf)).alloc (.cells #[.bool vb, .bool vn, .slice vo vk vc, .int .i64 vf] 47)) ∧ g ≠ w.heap.size ∧ V.heap.size ≤ g ∧ V.heap.size ≤ w.heap.size := by
  have o1 : Only g w ((((w.setCell ⟨g, 0, none⟩ (.bool ub)).setCell ⟨g, 1, none⟩ (.bool un)).setCell ⟨g, 2, none⟩ (.slice uo uk uc)).setCell ⟨g, 3, none⟩ (.int .i64 uf)) := only_set4 w g _ _ _ _
  have a := hg.stored ub un uo uk uc uf
  have hu1 := hu.only_dbox hg o1
  have hv1 := hv.only_dbox hg o1
  have E1 : Ext V ((((w.setCell ⟨g, 0, none⟩ (.bool ub)).setCell ⟨g, 1, none⟩ (.bool un)).setCell ⟨g, 2, none⟩ (.slice uo uk uc)).setCell ⟨g, 3, none⟩ (.int .i64 uf)) := Below.trans hE (o1.below h1)
  have hs := o1.size
  generalize ((((w.setCell ⟨g, 0, none⟩ (.bool ub)).setCell ⟨g, 1, none⟩ (.bool un)).setCell ⟨g, 2, none⟩ (.slice uo uk uc)).setCell ⟨g, 3, none⟩ (.int .i64 uf)) = W at *
  have hgl := hg.lt
  have hVs : V.heap.size ≤ w.heap.size := Below.size hE
  rw [← hs] at hgl hVs ⊢
  exact ⟨a.ext (ext_of_alloc _ _), DBox.new W vb vn vo vk vc vf, hu1.ext (ext_of_alloc _ _), hv1.ext (ext_of_alloc _ _), Ext.trans E1 (ext_of_alloc _ _), by omega, h1, hVs⟩
theorem dp_new {ub un : Bool} {uo : Option Addr} {uk uc : Nat} {uf : Int} {vb vn : Bool} {vo : Option Addr} {vk vc : Nat} {vf : Int} {d e : Dy} {V w : World} (hu : Dn w (.agg #[.bool ub, .bool un, .slice uo uk uc, .int .i64 uf]) d) (hv : Dn w (.agg #[.bool vb, .bool vn, .slice vo vk vc, .int .i64 vf]) e) (hE : Ext V w) :
    DBox ((w.alloc (.cells #[.bool ub, .bool un, .slice uo uk uc, .int .i64 uf] 47)).alloc (.cells #[.bool vb, .bool vn, .slice vo vk vc, .int .i64 vf] 47)) w.heap.size ub un uo uk uc uf ∧ DBox ((w.alloc (.cells #[.bool ub, .bool un, .slice uo uk uc, .int .i64 uf] 47)).alloc (.cells #[.bool vb, .bool vn, .slice vo vk vc, .int .i64 vf] 47)) (w.heap.size + 1) vb vn vo vk vc vf ∧ Dn ((w.alloc (.cells #[.bool ub, .bool un, .slice uo uk uc, .int .i64 uf] 47)).alloc (.cells #[.bool vb, .bool vn, .slice vo vk vc, .int .i64 vf] 47)) (.agg #[.bool ub, .bool un, .slice uo uk uc, .int .i64 uf]) d ∧ Dn ((w.alloc (.cells #[.bool ub, .bool un, .slice uo uk uc, .int .i64 uf] 47)).alloc (.cells #[.bool vb, .bool vn, .slice vo vk vc, .int .i64 vf] 47)) (.agg #[.bool vb, .bool vn, .slice vo vk vc, .int .i64 vf]) e ∧ Ext V ((w.alloc (.cells #[.bool ub, .bool un, .slice uo uk uc, .int .i64 uf] 47)).alloc (.cells #[.bool vb, .bool vn, .slice vo vk vc, .int .i64 vf] 47)) ∧ w.heap.size ≠ (w.heap.size + 1) ∧ V.heap.size ≤ w.heap.size ∧ V.heap.size ≤ (w.heap.size + 1) := by
  refine ⟨(DBox.new w ub un uo uk uc uf).ext (ext_of_alloc _ _), ?_, (hu.ext (ext_of_alloc _ _)).ext (ext_of_alloc _ _), (hv.ext (ext_of_alloc _ _)).ext (ext_of_alloc _ _), Ext.trans (Ext.trans hE (ext_of_alloc _ _)) (ext_of_alloc _ _), by omega, Below.size hE, by have h9 : V.heap.size ≤ w.heap.size := Below.size hE; omega⟩
  have := DBox.new (w.alloc (.cells #[.bool ub, .bool un, .slice uo uk uc, .int .i64 uf] 47)) vb vn vo vk vc vf
  simpa using this
end Go.Proofs.YtecaaklbhhjcjaaGreatDoor

namespace Go.Proofs.YtecaaklbhhjcjaaGreatDoor
open Go.RowKit

/-- a NaN counts as zero -/
def nz (x : Nat) : Nat := if nanB x then 0 else x
theorem FB.set {w : World} {g : Nat} {l : List Nat} (h : FB w g l) (j x : Nat) : FB (w.setCell ⟨g, j, none⟩ (.int .u64 (x : Int))) g (l.set j x) := by
  unfold FB at h ⊢
  rw [List.map_set]
  simp [World.setCell, Array.getElem?_modify, h]
/-- the least and the greatest of the corners, where a NaN counts as zero -/
structure SpanMulF (a b c d : Nat) (x y : Int) (l1 l2 : List Nat) : Prop where
  e1 : l1 = [fmulF a c 1, fmulF a d 1, fmulF b c 1, fmulF b d 1].map nz
  e2 : l2 = [fmulF a c 2, fmulF a d 2, fmulF b c 2, fmulF b d 2].map nz
  n1 : ∀ x ∈ [fmulF a c 1, fmulF a d 1, fmulF b c 1, fmulF b d 1], x < 18446744073709551616
  n2 : ∀ x ∈ [fmulF a c 2, fmulF a d 2, fmulF b c 2, fmulF b d 2], x < 18446744073709551616
  hx : ((plainF (leastF l1) : Nat) : Int) = x
  hy : ((plainF (greatF l2) : Nat) : Int) = y

end Go.Proofs.YtecaaklbhhjcjaaGreatDoor

namespace Go.Proofs.YtecaaklbhhjcjaaGreatDoor

theorem fma_num {a b c : Nat} (mode : Int) (ha : finB a = true) (hb : finB b = true) (hc : finB c = true) (hcl : c < 18446744073709551616) : nanB (fmaF a b c mode) = false ∧ fmaF a b c mode < 18446744073709551616 := by
  obtain ⟨a1, a2⟩ := fin_not ha
  obtain ⟨b1, b2⟩ := fin_not hb
  obtain ⟨c1, c2⟩ := fin_not hc
  unfold fmaF
  rw [a1, a2, b1, b2, c1, c2]
  simp only [Bool.or_false, Bool.false_or, Bool.false_and, Bool.false_eq_true, if_false]
  split
  · exact ⟨(cancel_num mode).1, (cancel_num mode).2.1⟩
  · split
    · exact ⟨c1, hcl⟩
    · exact rsum_num _ _ _
theorem add_num {a b : Nat} (mode : Int) (ha : finB a = true) (hb : finB b = true) (hbl : b < 18446744073709551616) : nanB (faddF a b mode) = false ∧ faddF a b mode < 18446744073709551616 := fma_num mode ha fin_one hb hbl
theorem fin_plain {a : Nat} (h : finB a = true) : finB (plainF a) = true := by
  unfold plainF; split
  · decide
  · exact h
end Go.Proofs.YtecaaklbhhjcjaaGreatDoor
