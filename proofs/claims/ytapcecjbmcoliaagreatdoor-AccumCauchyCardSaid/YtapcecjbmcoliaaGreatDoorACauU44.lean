import Derived.Test.YtapcecjbmcoliaaGreatDoorACauU42
import Derived.Test.YtapcecjbmcoliaaGreatDoorACauU43
import Derived.Test.YtapcecjbmcoliaaGreatDoorACauU3
import Derived.StillTailTactics
import Derived.Deep.RegionWith
namespace Go.Proofs.YtapcecjbmcoliaaGreatDoor
open Go Go.RowKit

theorem Sl.drop {w : World} {b off n cap : Nat} {zs : List Int} (h : Sl w (some ⟨b, off, none⟩) n cap zs) (k : Nat) (hk : k < n) : Sl w (some ⟨b, off + k, none⟩) (n - k) (cap - k) (zs.drop k) := by
  refine ⟨by rw [List.length_drop, h.len], by have := h.cap; omega, by have := h.big; omega, h.wf.drop k, fun h0 => ?_⟩
  obtain ⟨b', off', e, hc⟩ := h.cells (by rw [h.len]; omega)
  cases e
  refine ⟨b, off + k, rfl, fun j hj => ?_⟩
  rw [List.length_drop] at hj
  rw [Nat.add_assoc, hc (k + j) (by omega)]
  simp [List.getD, List.getElem?_drop]

set_option maxRecDepth 100000 in
set_option maxHeartbeats 4000000 in
theorem karat_any (a b : Nat) (ao bo : Option Addr) (n m ca cb : Nat) (w : World) (ha : Sl w ao n ca (limbs a)) (hb : Sl w bo m cb (limbs b)) (hn : n ≤ 190) (hm : 100 ≤ m) (hmn : m ≤ n) :
    Calls Tryz.prog 81 #[.slice ao n ca, .slice bo m cb] w fun e w' => ∃ ao' k cap, e = .returned (.slice ao' k cap) ∧ Sl w' ao' k cap (limbs (a * b)) ∧ Below w.heap.size w w' := by
  obtain ⟨h, hh⟩ : ∃ h, (n + 1) / 2 = h := ⟨_, rfl⟩
  have hh1 : h ≤ 95 := by omega
  have hh2 : h < m := by omega
  have w1 : IntKind.i64.wrap ((n : Int) + 1) = ((n + 1 : Nat) : Int) := by rw [IntWalk.i64_in _ (by omega)]; omega
  have w2 : IntKind.i64.wrap (((n + 1 : Nat) : Int).tdiv 2) = (h : Int) := by
    rw [Int.tdiv_eq_ediv_of_nonneg (by omega), IntWalk.i64_in _ (by omega)]; omega
  obtain ⟨ba, oa, rfl, _⟩ := ha.cells (by rw [ha.len]; omega)
  obtain ⟨bb, ob, rfl, _⟩ := hb.cells (by rw [hb.len]; omega)
  obtain ⟨ka, hka, hsa, hta⟩ := trim_at _ _ _ _ _ (ha.take h (by omega))
  obtain ⟨kb, hkb, hsb, htb⟩ := trim_at _ _ _ _ _ (hb.take h (by omega))
  rw [half_low (by rw [ha.len]; omega)] at hsa
  rw [half_low (by rw [hb.len]; omega)] at hsb
  have hda := ha.drop h (by omega)
  have hdb := hb.drop h hh2
  rw [half_high (by rw [ha.len]; omega)] at hda
  rw [half_high (by rw [hb.len]; omega)] at hdb
  have HTA := Lib.hid (hta w.drew (ha.take h (by omega)).drew)
  have HTB := Lib.hid (htb w.drew.drew (hb.take h (by omega)).drew.drew)
  have w3 : ((n : Int) + 1) / 2 = (h : Int) := by omega
  have a0l : a % 4294967296 ^ h < 4294967296 ^ h := Nat.mod_lt _ (Nat.pow_pos (by decide))
  have HA := Lib.hid (And.intro hsa hda)
  have HB := Lib.hid (And.intro hsb hdb)
  have HAL := Lib.hid (And.intro ha.len hb.len)
  have HID := Lib.hid (kar_id a b (4294967296 ^ h))
  obtain ⟨x, hx⟩ : ∃ x, a % 4294967296 ^ h = x := ⟨_, rfl⟩
  obtain ⟨y, hy⟩ : ∃ y, a / 4294967296 ^ h = y := ⟨_, rfl⟩
  obtain ⟨z, hz⟩ : ∃ z, b % 4294967296 ^ h = z := ⟨_, rfl⟩
  obtain ⟨u, hu⟩ : ∃ u, b / 4294967296 ^ h = u := ⟨_, rfl⟩
  rw [hx, hz, hy, hu] at HID
  rw [hx, hy] at HA
  rw [hz, hu] at HB
  have hhi : (h : Int) ≤ (ca : Int) := by have := ha.cap; omega
  have hhj : (h : Int) ≤ (cb : Int) := by have := hb.cap; omega
  have hni : (h : Int) ≤ (n : Int) := by omega
  have hmi : (h : Int) ≤ (m : Int) := by omega
  have e1 : ((n : Int) - (h : Int)).toNat = n - h := by omega
  have e2 : ((m : Int) - (h : Int)).toNat = m - h := by omega
  have ne1 : ¬ ca = h := by have := ha.cap; omega
  have ne2 : ¬ cb = h := by have := hb.cap; omega
  clear hh hsa hsb hda hdb hta htb ha hb hx hy hz hu a0l
  go_enter Tryz.func81, Tryz.ntmps81
  go_upto_region 2 with fail
  refine wp_region_still_lit (by kernel_rfl) (by kernel_rfl) ?_
  repeat still_step
  still_call (HTA.out.mono (fun _ _ h => ⟨h.1, h.2.symm⟩))
  repeat still_step
  refine wpStill_nil ?_
  go_upto_region 3 with fail
  refine wp_region_still_lit (by kernel_rfl) (by kernel_rfl) ?_
  repeat still_step
  still_call (HTB.out.mono (fun _ _ h => ⟨h.1, h.2.symm⟩))
  repeat still_step
  refine wpStill_nil ?_
  go_wp2_with fail
  refine (timesB_any x z _ _ ka kb ca cb _ HA.out.1.drew.drew HB.out.1.drew.drew (by omega) (by omega) (by omega)).mono ?_
  rintro e w3 ⟨gl, kl, cl, Rl, rfl, hbl, hkl, hRl, hsl, hcl, hgl, hE3⟩
  have HL := Lib.hid (And.intro hbl (And.intro hkl (And.intro hRl (And.intro hsl hgl))))
  have HA3 := Lib.hid (And.intro (HA.out.1.drew.drew.below hE3) (HA.out.2.drew.drew.below hE3))
  have HB3 := Lib.hid (And.intro (HB.out.1.drew.drew.below hE3) (HB.out.2.drew.drew.below hE3))
  have HE3 := Lib.hid (show Below w.heap.size w w3 from Below.trans (Below.refl _ _).drew.drew hE3)
  clear hbl hkl hRl hsl hgl hE3 HTA HTB
  go_wp2_with fail
  refine (timesB_any y u _ _ (n - h) (m - h) (ca - h) (cb - h) _ HA3.out.2 HB3.out.2 (by omega) (by omega) (by omega)).mono ?_
  rintro e w4 ⟨gh, kh, ch, Rh, rfl, hbh, hkh, hRh, hsh, hch, hgh, hE4⟩
  have HH := Lib.hid (And.intro hbh (And.intro hkh (And.intro hRh (And.intro hsh hgh))))
  have HL4 := Lib.hid (And.intro (HL.out.1.below hE4) (show gl < w4.heap.size by have := HL.out.1.lt; have := Below.size hE4; omega))
  have HA4 := Lib.hid (And.intro (HA3.out.1.below hE4) (HA3.out.2.below hE4))
  have HB4 := Lib.hid (And.intro (HB3.out.1.below hE4) (HB3.out.2.below hE4))
  have HE4 := Lib.hid (show Below w.heap.size w w4 from Below.trans HE3.out (hE4.mono (Below.size HE3.out)))
  clear hbh hkh hRh hsh hgh hE4 HA3 HB3 HE3
  go_wp2_with fail
  refine (plus_any x y _ _ ka (n - h) ca (ca - h) _ HA4.out.1 HA4.out.2 (by omega) (by omega)).mono ?_
  rintro e w5 ⟨po, pk, pc, rfl, hp, hE5⟩
  have HP := Lib.hid hp
  have HE5 := Lib.hid hE5
  clear hp hE5
  go_wp2_with fail
  refine (plus_any z u _ _ kb (m - h) cb (cb - h) _ (HB4.out.1.below HE5.out) (HB4.out.2.below HE5.out) (by omega) (by omega)).mono ?_
  rintro e w6 ⟨qo, qk, qc, rfl, hq, hE6⟩
  have hpk : pk ≤ 96 := by rw [← HP.out.len]; exact add_len (by rw [HA4.out.1.len]; omega) (by rw [HA4.out.2.len]; omega)
  have hqk : qk ≤ 96 := by rw [← hq.len]; exact add_len (by rw [HB4.out.1.len]; omega) (by rw [HB4.out.2.len]; omega)
  have HQ := Lib.hid hq
  have HP6 := Lib.hid (HP.out.below hE6)
  have HE6 := Lib.hid (show Below w4.heap.size w4 w6 from Below.trans HE5.out (hE6.mono (Below.size HE5.out)))
  clear hq hE6 HP HE5
  go_wp2_with fail
  refine (timesB_any (x + y) (z + u) _ _ pk qk pc qc _ HP6.out HQ.out (by omega) (by omega) (by omega)).mono ?_
  rintro e w7 ⟨gm, km, cm, Rm, rfl, hbm, hkm, hRm, hsm, hcm, hgm, hE7⟩
  have HE7 := Lib.hid (show Below w4.heap.size w4 w7 from Below.trans HE6.out (hE7.mono (Below.size HE6.out)))
  have HM := Lib.hid (And.intro hbm (And.intro hkm (And.intro hRm (And.intro hsm (show w4.heap.size ≤ gm from Nat.le_trans (Below.size HE6.out) hgm)))))
  clear hbm hkm hRm hsm hgm hE7 HE6 HP6 HQ
  have HST := Lib.hid (show Stay gm w7 (some ⟨gl, 0, none⟩) (limbs (x * z)) from fun w' ho => blk_pre ((HL4.out.1.below HE7.out).only ho (by have := HL4.out.2; have := HM.out.2.2.2.2; omega)))
  have HSU := Lib.hid (show ∀ w8, Only gm w7 w8 → Stay gm w8 (some ⟨gh, 0, none⟩) (limbs (y * u)) from fun w8 ho8 w' ho => blk_pre ((HH.out.1.below HE7.out).only (ho8.trans ho) (by have := HH.out.1.lt; have := HM.out.2.2.2.2; omega)))
  have hlow : x * z ≤ (x + y) * (z + u) := by have := kar_low (x := x) (y := y) (z := z) (u := u); omega
  have CS1 := Lib.hid (subFrom_win gm 0 km cm kl cl _ (limbs ((x + y) * (z + u))) (limbs (x * z)) w7 [] Rm rfl HM.out.1 HM.out.2.1 (Wf.limbs _) (by have := HM.out.2.2.2.1; omega) HL.out.2.1 (Wf.limbs _) (by rw [← HM.out.2.1, ← HL.out.2.1]; exact limbs_mono hlow) HST.out (by rw [num_limbs, num_limbs]; exact Int.ofNat_le.2 hlow))
  go_wp2_with fail
  refine CS1.out.mono ?_
  rintro e w8 ⟨rfl, L1, hb8, hl8, hw8, hn8, ho8⟩
  have hhigh : y * u ≤ (x + y) * (z + u) := by have := kar_low (x := x) (y := y) (z := z) (u := u); omega
  have hrest : y * u ≤ (x + y) * (z + u) - x * z := by have := kar_low (x := x) (y := y) (z := z) (u := u); omega
  have CS2 := Lib.hid (subFrom_win gm 0 km cm kh ch _ L1 (limbs (y * u)) w8 [] Rm rfl hb8 hl8 hw8 (by have := HM.out.2.2.2.1; omega) HH.out.2.1 (Wf.limbs _) (by rw [← HM.out.2.1, ← HH.out.2.1]; exact limbs_mono hhigh) (HSU.out w8 ho8) (by rw [hn8, num_limbs, num_limbs, num_limbs]; omega))
  have HO8 := Lib.hid ho8
  rw [num_limbs, num_limbs] at hn8
  have HN8 := Lib.hid hn8
  clear hb8 hl8 hw8 hn8 ho8 CS1 HST HSU
  go_wp2_with fail
  refine CS2.out.mono ?_
  rintro e w9 ⟨rfl, L2, hb9, hl9, hw9, hn9, ho9⟩
  rw [HN8.out, num_limbs] at hn9
  have HO9 := Lib.hid (HO8.out.trans ho9)
  have HB9 := Lib.hid (And.intro hb9 (And.intro hl9 (And.intro hw9 hn9)))
  clear hb9 hl9 hw9 hn9 ho9 CS2 HN8 HO8
  have hkl : kl ≤ 2 * h := by rw [← HL.out.2.1, Nat.two_mul]; exact mul_len (by rw [HA4.out.1.len]; exact hka) (by rw [HB4.out.1.len]; exact hkb)
  have hkh : kh ≤ (n - h) + (m - h) := by rw [← HH.out.2.1]; exact mul_len (by rw [HA4.out.2.len]; omega) (by rw [HB4.out.2.len]; omega)
  go_wp2_with (with_reducible refine wpList_make_u32 _ rfl _ _ rfl _ (n + m) rfl rfl (by omega) (by omega) ?_)
  intro w10 hb10 hw10
  have hl10 := ((HL4.out.1.below HE7.out).only HO9.out (by have := HL4.out.2; have := HM.out.2.2.2.2; omega)).below hw10
  have hh10 := ((HH.out.1.below HE7.out).only HO9.out (by have := HH.out.1.lt; have := HM.out.2.2.2.2; omega)).below hw10
  have hm10 := HB9.out.1.below hw10
  have sl10 : Sl w10 (some ⟨gl, 0, none⟩) kl cl (limbs (x * z)) := ⟨HL.out.2.1, hcl, by omega, Wf.limbs _, blk_pre hl10⟩
  have g1 : gl ≠ w9.heap.size := by have := (HL4.out.1.below HE7.out).only HO9.out (by have := HL4.out.2; have := HM.out.2.2.2.2; omega); have := this.lt; omega
  have g2 : gh ≠ w9.heap.size := by have := (HH.out.1.below HE7.out).only HO9.out (by have := HH.out.1.lt; have := HM.out.2.2.2.2; omega); have := this.lt; omega
  have g3 : gm ≠ w9.heap.size := by have := HB9.out.1.lt; omega
  generalize hg10 : w9.heap.size = g10 at *
  have HG10 := Lib.hid hg10
  clear hg10
  have HH10 := Lib.hid hh10
  have HM10 := Lib.hid hm10
  have HW10 := Lib.hid hw10
  clear hl10 hh10 hm10 hw10
  go_wp2_with (with_reducible refine wpList_copy_u32 rfl (.tmp 57) (.tmp 58) rfl Tryz.underlying25 Tryz.sizeU32 g10 0 (n + m) (n + m) _ kl cl rfl rfl _ hb10 _ sl10 (by omega) (by simp; omega) ?_)
  intro w11 hb11 ho11
  rw [splice_zero, HL.out.2.1] at hb11
  have hh11 := HH10.out.only ho11 g2
  have sl11 : Sl w11 (some ⟨gh, 0, none⟩) kh ch (limbs (y * u)) := ⟨HH.out.2.1, hch, by omega, Wf.limbs _, blk_pre hh11⟩
  have HM11 := Lib.hid (HM10.out.only ho11 g3)
  have HO11 := Lib.hid ho11
  clear hh11 ho11 HH10 HM10 sl10
  go_wp2_with (with_reducible refine wpList_copy_u32 rfl (.tmp 63) (.tmp 64) rfl Tryz.underlying25 Tryz.sizeU32 g10 (2 * h) (n + m - 2 * h) (n + m - 2 * h) _ kh ch rfl rfl _ hb11 _ sl11 (by omega) (by rw [List.length_append, List.length_replicate, HL.out.2.1]; omega) ?_)
  intro w12 hb12 ho12
  rw [← HL.out.2.1] at hb12
  obtain ⟨O, hO, hOl, hOw, hOn⟩ := kar_out (N := n + m) (q := 2 * h) (Wf.limbs (x * z)) (Wf.limbs (y * u)) (by rw [HL.out.2.1]; exact hkl) (by rw [HH.out.2.1]; omega)
  rw [hO] at hb12
  rw [num_limbs, num_limbs] at hOn
  clear hO
  obtain ⟨v, hv⟩ : ∃ v, (x + y) * (z + u) - x * z - y * u = v := ⟨_, rfl⟩
  have hvn : num L2 = (v : Int) := by rw [HB9.out.2.2.2]; omega
  have hT := HID.out
  rw [hv] at hT
  have hTop := kar_top HAL.out.1 HAL.out.2
  have hnm : n + m = h + (n + m - h) := by omega
  rw [hnm] at hTop
  have hvl : (limbs v).length ≤ n + m - h := kar_mid (P := x * z + 4294967296 ^ h * 4294967296 ^ h * (y * u)) (by rw [hT]; omega) hTop
  have hTi : num O + 4294967296 ^ h * (v : Int) = ((a * b : Nat) : Int) := by
    exact kar_sum hOn hT
  rw [← List.take_append_drop h O, ← List.append_nil (O.drop h)] at hb12
  have hPl : (O.take h).length = h := by rw [List.length_take]; omega
  have hLl : (O.drop h).length = n + m - h := by rw [List.length_drop]; omega
  have hfit : num (O.drop h) + (v : Int) < 4294967296 ^ (n + m - h) := kar_fit hPl (hOw.take h) (by rw [List.take_append_drop]; exact hTi) hTop
  have hm12 := HM11.out.only ho12 g3
  have htk : L2.take (tlen L2 km) = limbs v := by
    have := take_tlen HB9.out.2.2.1 km (by rw [HB9.out.2.1]; exact Nat.le_refl _)
    rw [show L2.take km = L2 from List.take_of_length_le (by rw [HB9.out.2.1]; exact Nat.le_refl _), hvn, Int.toNat_natCast] at this
    exact this
  have htl : (limbs v).length = tlen L2 km := by
    rw [← htk, List.length_take, HB9.out.2.1]; have := tlen_le L2 km; omega
  have hm12' : Blk w12 gm (limbs v ++ (L2.drop (tlen L2 km) ++ Rm)) := by
    rw [← htk, ← List.append_assoc, List.take_append_drop]; exact hm12
  have CT := Lib.hid (trim_any (some ⟨gm, 0, none⟩) km cm L2 w12.drew HB9.out.2.1 (by have := HM.out.2.2.2.1; omega) hcm (blk_pre (L := L2) (R := Rm) hm12.drew))
  have htc : tlen L2 km ≤ n + m - h := by rw [← htl]; exact hvl
  have CA := Lib.hid (addTo_win g10 h (n + m - h) (n + m - h) (tlen L2 km) cm (some ⟨gm, 0, none⟩) (O.drop h) (limbs v) w12.drew (O.take h) [] hPl hb12.drew hLl (hOw.drop h) (by omega) htl (Wf.limbs _) htc (fun w' ho => blk_pre (hm12'.drew.only ho g3)) (by rw [num_limbs]; exact hfit))
  have hsz : w.heap.size ≤ gm := Nat.le_trans (Below.size HE4.out) HM.out.2.2.2.2
  have hsz2 : w.heap.size ≤ g10 := by have := HB9.out.1.lt; have := HG10.out; omega
  have HB12 := Lib.hid (show Below w.heap.size w w12.drew from Below.trans HE4.out (Below.trans (HE7.out.mono (Below.size HE4.out)) (Below.trans (HO9.out.below hsz) (Below.trans (HW10.out.mono hsz2) (Below.trans (HO11.out.below hsz2) (ho12.drew.below hsz2))))))
  have HF := Lib.hid (And.intro hPl (And.intro hLl (And.intro hOw hTi)))
  obtain ⟨t, ht⟩ : ∃ t, tlen L2 km = t := ⟨_, rfl⟩
  rw [ht] at CT CA
  have hhnm : (h : Int) ≤ (n : Int) + (m : Int) := by omega
  have ne3 : ¬ n + m = h := by omega
  clear hPl hLl hOw hTi hb12 ho12 hm12 hm12' htk htl htc hfit hvl hTop hT hnm hvn hv ht sl11 g1 g2 g3 hlow hhigh hrest hOn HM11 HO11 HW10 HO9 HE7 HE4 HL HH HL4 HID hkl hkh
  go_upto_region 11 with fail
  refine wp_region_still_tail 5 (by kernel_rfl) (by kernel_rfl) ?_
  repeat still_step
  still_call (CT.out.mono (fun _ _ h => ⟨h.1, h.2.symm⟩))
  refine wpStill_nil ?_
  go_wp2_with fail
  refine CA.out.mono ?_
  rintro e w13 ⟨rfl, L', hb13, hl13, hw13, hn13, ho13⟩
  have hres : num (O.take h ++ (L' ++ [])) = ((a * b : Nat) : Int) := by
    rw [List.append_nil, num_append, HF.out.1, hn13, num_limbs, Int.mul_add, ← Int.add_assoc]
    have e := num_append (O.take h) (O.drop h)
    rw [List.take_append_drop, HF.out.1] at e
    rw [← e]
    exact HF.out.2.2.2
  have hlen : (O.take h ++ (L' ++ [])).length = n + m := by rw [List.append_nil, List.length_append, HF.out.1, hl13]; omega
  have hwf : Wf (O.take h ++ (L' ++ [])) := (HF.out.2.2.1.take h).append (hw13.append Wf.nil)
  have HR := Lib.hid (And.intro hb13 (And.intro hlen (And.intro hwf (And.intro hres (Below.trans HB12.out (ho13.below hsz2))))))
  clear hb13 hlen hwf hres ho13 hw13 hl13 hn13 CA CT HB12
  obtain ⟨Z, hZ⟩ : ∃ Z, O.take h ++ (L' ++ []) = Z := ⟨_, rfl⟩
  rw [hZ] at HR
  go_wp2_with fail
  refine (trim_any (some ⟨g10, 0, none⟩) (n + m) _ Z w13 HR.out.2.1 (by omega) (Nat.le_refl _) HR.out.1.at).mono ?_
  rintro e w14 ⟨rfl, rfl⟩
  go_wp2
  go_ret
  have := (HR.out.1.sl HR.out.2.2.1 HR.out.2.1 (by omega) (Nat.le_refl _)).trim
  rw [HR.out.2.2.2.1, Int.toNat_natCast] at this
  exact ⟨_, _, _, rfl, this, HR.out.2.2.2.2⟩
end Go.Proofs.YtapcecjbmcoliaaGreatDoor
