import Derived.Test.YtapcecjbmcoliaaGrPlU35
import Derived.Test.YtapcecjbmcoliaaGrPlU44
import Derived.Test.YtapcecjbmcoliaaGrPlU46
namespace Go.Proofs.Ytapcecjbmcoliaa
open Go Go.RowKit

/-- p is in one of the first i lists -/
def nearB (ls : List (List Nat)) (p i : Nat) : Bool := (ls.take i).any fun k => inB (castZ k) (p : Int)
theorem nearB_next {ls : List (List Nat)} {p i : Nat} (h : i < ls.length) : nearB ls p (i + 1) = (nearB ls p i || inB (castZ (ls.getD i [])) (p : Int)) := by
  unfold nearB
  rw [List.take_succ_eq_append_getElem h, List.any_append]
  simp [List.getD, h]
theorem inB_cast {l : List Nat} {p : Nat} (h : p ∈ l) : inB (castZ l) (p : Int) = true := by
  unfold inB castZ
  rw [List.any_eq_true]
  exact ⟨(p : Int), List.mem_map.2 ⟨p, h, rfl⟩, by simp⟩
theorem nearB_all {ls : List (List Nat)} {p : Nat} (h : ∃ k ∈ ls, p ∈ k) : nearB ls p ls.length = true := by
  obtain ⟨k, hk, hp⟩ := h
  unfold nearB
  rw [List.take_length, List.any_eq_true]
  exact ⟨k, hk, inB_cast hp⟩

set_option maxRecDepth 100000 in
set_option maxHeartbeats 8000000 in
theorem gper_yes (o : Option Addr) (n v : Int) (m cap : Nat) (L : List Int) (w : World) (h : Ns w o m cap L) (hm : m ≤ 60) :
    Calls Try.prog 6 #[.int .i64 n, .slice o m cap, .int .i64 v] w fun e w' => e = .returned (.bool true) ∧ Ext w w' := by
  have HL := Lib.hid h
  have AW := Lib.hid (fun wx (_ : Ext w wx) => gawake_any wx)
  obtain ⟨k, hk, CP0⟩ := place_at n 12 (by omega) (by omega)
  have CP := Lib.hid (show ∀ wx : World, Calls Try.prog 9 #[.int .i64 n, .int .i64 12] wx fun e w' => e = .returned (.int .i64 (k : Int)) ∧ wx = w' from CP0)
  obtain ⟨N, hN⟩ : ∃ N : Nat, N = k + 1 := ⟨_, rfl⟩
  have hwr : IntKind.i64.wrap (1 + (k : Int)) = (N : Int) := by rw [IntWalk.i64_in _ (by omega)]; omega
  have hnn : (1 : Int) + (k : Int) = (N : Int) := by omega
  have hN0 : 0 < N := by omega
  have hN12 : N ≤ 12 := by omega
  have hml : ¬ (m : Int) > 60 := by omega
  clear CP0 hN h
  obtain ⟨r, hr, CQ0⟩ := place_at v N hN0 (by omega)
  have CQ := Lib.hid CQ0
  clear CQ0
  go_enter Try.func6, Try.ntmps6
  go_wp2_with fail
  refine (CP.out _).mono ?_
  rintro e wq ⟨rfl, rfl⟩
  go_wp2_with fail
  refine (graph_any o N m cap L w HL.out (by omega) (by omega)).mono ?_
  rintro e w2 ⟨a, gv, grs, ⟨hg, hlt⟩, rfl, hrs, hE⟩
  obtain ⟨ao, gc, rfl, -⟩ := hrs.slE
  have hgl : grs.length = N := by rw [← hrs.len, adjM_len]
  rw [hgl] at hrs ⊢
  have HG2 := Lib.hid hrs.nssAt
  have HE2 := Lib.hid hE
  have HLT := Lib.hid hlt
  clear hrs hE hgl hlt hk
  go_upto_region 5 with fail
  obtain ⟨V, hV, hEV, b1, -⟩ := gbox_val w2 (.slice ao N gc)
  rw [← hV]
  clear hV
  have HWV := Lib.hid (Ext.trans HE2.out hEV)
  have HN := Lib.hid (HG2.out.below hEV)
  generalize w2.heap.size = B at *
  have HBX := Lib.hid (show ∀ wx, Ext V wx → wx.cell? ⟨B, 0, none⟩ = some (.slice ao N gc) from fun wx hx => (b1.low hx b1.lt).c)
  clear hEV b1 HE2 HG2
  have hri : (r : Int) < (N : Int) := by omega
  go_wp2_with fail
  refine (CQ.out _).mono ?_
  rintro e wq ⟨rfl, rfl⟩
  have k0 := HBX.out V (Ext.refl _)
  have CP1 := Lib.hid (peripheral_any ao N gc r a V HN.out hg hr (by omega))
  go_wp2_with fail
  refine CP1.out.mono ?_
  rintro e w3 ⟨p, hp, rfl, hE⟩
  have h3 := Lib.hid hE
  have hpN := hp.lt hr
  have hmore := hp.more
  have hin : ∃ k ∈ lev0 N a r, p ∈ k := perTo_in HLT.out hp hr
  have k0 := HBX.out _ h3.out
  have HPP := Lib.hid hp.ends
  have CP2 := Lib.hid (peripheral_any ao N gc p a w3 (HN.out.below h3.out) hg hpN (by omega))
  have hp0 : decide ((p : Int) < 0) = false := decide_eq_false (by omega)
  have hpi : decide ((p : Int) ≥ (N : Int)) = false := decide_eq_false (by omega)
  have hpi2 : decide (N ≤ p) = false := decide_eq_false (by omega)
  clear hE CP1 hp
  go_wp2_with fail
  refine CP2.out.mono ?_
  rintro e w4 ⟨q, hq, rfl, hE⟩
  obtain rfl : p = q := HPP.out.det hq
  have h4 := Lib.hid (Ext.trans h3.out hE)
  clear hE CP2 hq k0 HPP
  have CA := Lib.hid (fun wx (hx : Ext V wx) => levelsG_any ao N gc r a wx (HN.out.below hx) hg hr (by omega))
  have CB := Lib.hid (fun wx (hx : Ext V wx) => levelsG_any ao N gc p a wx (HN.out.below hx) hg hpN (by omega))
  have hl1 := lev0_pos N r a
  have hl6 := lev0_len N r a
  have hok := lev0_ok (a := a) hr
  have HOK := Lib.hid hok
  have HIN := Lib.hid hin
  generalize lev0 N a r = A at *
  generalize lev0 N a p = D at *
  obtain ⟨x, hx⟩ : ∃ x, A.length = x := ⟨_, rfl⟩
  obtain ⟨y, hy⟩ : ∃ y, D.length = y := ⟨_, rfl⟩
  have HX := Lib.hid hx
  have HY := Lib.hid hy
  rw [hx] at hl1 hmore hl6
  rw [hy] at hmore
  clear hx hy hok hin hg
  have st : Ext V w4 := h4.out
  have k0 := HBX.out _ st
  go_upto_region 9 with fail
  have st : Ext V _ := st.drew
  go_cut [9, 10] from 43 (fun u t wx => ∃ uo uc to' tc, u = .slice uo x uc ∧ t = .slice to' y tc ∧ Hid (Nss wx uo x uc (A.map castZ)) ∧ Hid (Ext V wx))
  case first =>
    go_region_held3 (fun wx => wx.cell? ⟨B, 0, none⟩ = some (.slice ao N gc))
      (first | exact HBX.out _ (by assumption))
      (first
        | (go_at_call 17; (with_reducible refine (CA.out _ (by assumption)).mono ?_); rintro e wn ⟨va, ra, rfl, hra, hE⟩; obtain ⟨uo, uc, rfl, -⟩ := hra.slE; have e1 : ra.length = x := by rw [← hra.len, List.length_map]; exact HX.out
           rw [e1] at hra ⊢; have hA := Lib.hid hra.nssAt; have st : Ext V wn := Ext.trans (by assumption) hE; clear hE hra e1)
        | (go_at_call 17; (with_reducible refine (CB.out _ (by assumption)).mono ?_); rintro e wn ⟨vb, rb, rfl, hrb, hE⟩; obtain ⟨to', tc, rfl, -⟩ := hrb.slE; have e1 : rb.length = y := by rw [← hrb.len, List.length_map]; exact HY.out
           rw [e1] at hrb ⊢; (try (have hA := Lib.hid (hA.out.below hE))); have st : Ext V wn := Ext.trans (by assumption) hE; clear hE hrb e1))
    all_goals
      have EF : Ext V wn := by assumption
      have HAA := hA
      have HEF := Lib.hid EF
      go_wp2
      go_meet
    all_goals
      first | exact ⟨_, _, _, _, rfl, rfl, HAA, HEF⟩ | exact ⟨_, _, _, _, rfl, rfl, Lib.hid (HAA.out.below (Below.drew (Ext.refl _))), Lib.hid (Below.drew HEF.out)⟩
  case rest =>
    obtain ⟨uo, uc, to', tc, rfl, rfl, hA, hE5⟩ := hcut
    have hne : ((x : Int) == 0) = false := by rw [beq_eq_false_iff_ne]; omega
    have hlt2 : ¬ (y : Int) < (x : Int) := by omega
    have HAL := Lib.hid (nearB_all HIN.out)
    rw [HX.out] at HAL
    clear CA CB st k0
    go_wp2
    go_loopw [11, 12] (fun nv iv wr => ∃ i : Nat, i ≤ x ∧ iv = .int .i64 (i : Int) ∧ nv = .bool (nearB A p i) ∧ wc = wr) (fun _ iv _ => x - (intOf iv).toNat)
    case atStart => exact ⟨0, Nat.zero_le _, rfl, rfl, rfl⟩
    case round =>
      obtain ⟨i, hi, rfl, rfl, rfl⟩ := hrel
      by_cases hlt : i < x
      · have hii : (i : Int) < (x : Int) := by omega
        have hnx := nearB_next (ls := A) (p := p) (i := i) (by rw [HX.out]; exact hlt)
        obtain ⟨b, off, rfl, hc⟩ := hA.out.rows (by omega)
        obtain ⟨ri, ci, k1, hns⟩ := hc i hlt
        have e1 : (A.map castZ).getD i [] = castZ (A.getD i []) := by simp [List.getD, show i < A.length by rw [HX.out]; exact hlt]
        have hgl : (A.getD i []).length ≤ 1000000 := by
          have h2 : i < A.length := by rw [HX.out]; exact hlt
          have h3 : A.getD i [] = A[i] := by simp [List.getD, h2]
          have h4 := HOK.out _ (List.getElem_mem h2)
          rw [h3]
          have := nodup_le (h4.2.1.imp (fun h => Nat.ne_of_lt h)) h4.2.2
          omega
        rw [e1, castZ_len] at k1 hns
        generalize A.getD i [] = l at *
        have CI := Lib.hid (in_any ri l.length ci (castZ l) (p : Int) wc hns hgl)
        generalize inB (castZ l) (p : Int) = t at *
        generalize l.length = z at *
        have HNX := Lib.hid hnx
        clear hc hns e1 hgl hnx
        obtain ⟨s, hs⟩ : ∃ s, nearB A p i = s := ⟨_, rfl⟩
        rw [hs] at HNX ⊢
        clear hs
        cases s with
        | true =>
          clear CI k1
          go_wp2
          go_roundw
          case rel => exact ⟨i + 1, by omega, by go_num, by rw [HNX.out]; rfl, trivial⟩
          case measure => simp [intOf] <;> omega
        | false =>
          go_wp2_with fail
          refine CI.out.mono ?_
          rintro e wq ⟨rfl, rfl⟩
          go_wp2
          go_roundw
          case rel => exact ⟨i + 1, by omega, by go_num, by rw [HNX.out, Bool.false_or], trivial⟩
          case measure => simp [intOf] <;> omega
      · obtain rfl : x = i := by omega
        have hxx : ¬ (x : Int) < (x : Int) := by omega
        rw [HAL.out]
        have HF0 := Lib.hid (Ext.trans HWV.out hE5.out)
        go_wp2_with fail
        refine (AW.out _ HF0.out).mono ?_
        rintro e w9 ⟨rfl, hE⟩
        have HF := Lib.hid (Ext.trans HF0.out hE)
        go_wp2
        go_ret
        exact ⟨rfl, HF.out⟩

set_option maxRecDepth 100000 in
set_option maxHeartbeats 4000000 in
theorem gper_any (o : Option Addr) (n v : Int) (m cap : Nat) (w : World) (hr0 : m ≤ 1000000 → ∃ L, Ns w o m cap L) :
    Calls Try.prog 6 #[.int .i64 n, .slice o m cap, .int .i64 v] w fun e w' => e = .returned (.bool true) ∧ Ext w w' := by
  by_cases hm : m ≤ 60
  · obtain ⟨L, hL⟩ := hr0 (by omega)
    exact gper_yes o n v m cap L w hL hm
  · have AW := Lib.hid (gawake_any w)
    have h1 : (m : Int) > 60 := by omega
    clear hr0 hm
    go_enter Try.func6, Try.ntmps6
    go_wp2_with fail
    refine AW.out.mono ?_
    rintro e w9 ⟨rfl, h9⟩
    have HF := Lib.hid h9
    go_wp2
    go_ret
    exact ⟨rfl, HF.out⟩
end Go.Proofs.Ytapcecjbmcoliaa
