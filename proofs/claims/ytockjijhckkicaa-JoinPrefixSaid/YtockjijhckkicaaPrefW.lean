/-
  The walk of JoinPrefix.
-/
import Derived.Test.YtockjijhckkicaaStep
namespace Go.Proofs.Ytockjijhckkicaa
open Go.RowKit

set_option maxRecDepth 100000 in
set_option maxHeartbeats 16000000 in
theorem prefix_law (ps : List Pc) (a : Option Addr) (cap : Nat) (at' : Int) (w : World) (hr : PsRd w a ps) :
    Calls Try.prog 7 #[.slice a ps.length cap, .int .i64 at'] w fun e w' => e = .returned (.bool true) ∧ Below w.heap.size w w' := by
  obtain ⟨o1, o2, o3⟩ := wj_run takeR_tells ps 8
  have hs := wj_small ps 8
  have hlt8 := wj_lt ps 8
  have WJ := fun w' h => wordsj_any ps a cap w' h
  have HR : Hid (PsRd w a ps) := hr
  generalize wj ps 8 = L at *
  generalize kj ps 8 = KK at *
  have TC := fun j W h1 h2 b w h => take_any j W h1 h2 b w h
  have AC : ∀ k, k ≤ L.length → ∀ a cap w', Rd w' a (vw (L.take k)) → Calls Try.prog 15 #[.slice a k cap] w' fun e w'' => ∃ v, e = .returned (.tuple #[v, .int .i64 (k : Int)]) ∧ OwnK 33 4 w'' w'.heap.size v (kp takeR L k).length (kcs (kp takeR L k)) ∧ Below w'.heap.size w' w'' := fun k hk a cap w' h => by
    have := all_any (L.take k) (ok_take o1 k) (by rw [List.length_take]; omega) (fun x hx => hlt8 x (List.mem_of_mem_take hx)) a cap w' h
    rw [show (L.take k).length = k by rw [List.length_take]; omega] at this
    exact this
  have HS : Hid (∀ k, k < L.length → ∃ W : Nat, (vw L)[k]? = some (.int .u64 (W : Int)) ∧ W < 18446744073709551616 ∧ sj takeR L (k + 1) = (takeR (sj takeR L k) W).1 ∧ (sj takeR L (k + 1)).b = decide (¬ W % 4 = 3) ∧ (kp takeR L (k + 1)).length = (kp takeR L k).length + if W % 4 = 3 then 1 else 0) := show _ from fun k hk => by
    have hk' : L[k]? = some L[k] := List.getElem?_eq_getElem hk
    obtain ⟨k1, k2⟩ := kind_at o1 hk'
    exact ⟨L[k], by unfold vw; rw [List.getElem?_map, hk']; rfl, hlt8 _ (List.getElem_mem hk), (sj_step (T := takeR) hk').1, k1, k2⟩
  have HX : Hid (∀ k, (sj takeR L k).x.size ≤ 6 * k) := sj_x takeR_six
  have HP : Hid (∀ k, (kp takeR L k).length ≤ k) := fun k => kp_small k
  have HPR : Hid (∀ k, (kp takeR L k).length ≤ KK.length ∧ KK.take (kp takeR L k).length = kp takeR L k) := show _ from fun k => by
    rw [← o3]
    exact kp_pre takeR L k
  have HZ : Hid (sj takeR L 0 = zjs ∧ kp takeR L 0 = []) := ⟨rfl, rfl⟩
  have HTW : Hid (∀ k w' a, Rd w' a (vw L) → Rd w' a (vw (L.take k))) := show _ from fun k w' a h => by
    rw [vw_take]
    exact h.take k
  obtain ⟨n, hn⟩ : ∃ n, L.length = n := ⟨_, rfl⟩
  have HVL : Hid ((vw L).length = n) := (vw_len L).trans hn
  obtain ⟨m, hm⟩ : ∃ n, KK.length = n := ⟨_, rfl⟩
  rw [hn] at AC HS hs
  rw [hm] at HPR WJ hs
  generalize sj takeR L = SJ at *
  generalize kp takeR L = KP at *
  generalize takeR = TK at *
  clear o1 o2 o3 hr hn hm hlt8
  have LV := lives_any w
  obtain ⟨k, hk⟩ : ∃ k : Nat, IntKind.i64.wrap ((IntKind.u64.wrap at').tmod ((n : Int) + 1)) = (k : Int) := by
    obtain ⟨z0, z1⟩ := md_in at' (m := (n : Int) + 1) (by omega) (by omega)
    exact ⟨(md at' ((n : Int) + 1)).toNat, by unfold md at z0 ⊢; omega⟩
  have hkq : k ≤ n := by
    have := (md_in at' (m := (n : Int) + 1) (by omega) (by omega)).2
    unfold md at this
    omega
  have u1 : IntKind.u64.wrap ((n : Int) + 1) = (n : Int) + 1 := by rw [IntKind.wrap_u64]; omega
  have u2 : ¬ (n : Int) + 1 = 0 := by omega
  have u3 : (n : Int) ≤ 1000 := by omega
  have e0 : (0 : Int) ≤ (k : Int) := by omega
  have e1 : (k : Int) ≤ (n : Int) := by omega
  go_enter Try.func7, Try.ntmps7
  go_wp2_with fail
  go_at_call 8
  with_reducible refine LV.mono ?_
  rintro e w1 ⟨rfl, hb1⟩
  have HB1 : Hid (Below w.heap.size w w1) := hb1
  have WJ1 := WJ w1 (HR.out.below hb1)
  clear LV hb1 WJ HR
  go_wp2_with fail
  go_at_call 9
  with_reducible refine WJ1.mono ?_
  rintro e w2 ⟨v1, v2, rfl, ow, ok, hb2⟩
  have HB2 : Hid (Below w.heap.size w w2) := HB1.out.trans (hb2.mono HB1.out.size)
  obtain ⟨a1, cap1, rfl, hc1, hm1, rd1⟩ := OwnK.rd (k := 1) ow (by decide)
  obtain ⟨a2, cap2, rfl, hc2, hm2, rd2⟩ := ok.rd (by decide)
  rw [HVL.out] at hc1 ⊢
  have HW : Hid (Rd w2 a1 (vw L)) := rd1
  have HK : Hid (Rd w2 a2 (kcs KK)) := rd2
  have AC1 := AC k hkq a1 cap1 w2 (HTW.out k _ _ rd1)
  have e2 : (k : Int) ≤ (cap1 : Int) := by omega
  clear WJ1 HB1 hb2 ow ok rd1 rd2 AC HTW HVL
  go_wp2_with fail
  go_at_call 15
  with_reducible refine AC1.mono ?_
  rintro e w3 ⟨v3, rfl, o3, hb3⟩
  have HB3 : Hid (Below w.heap.size w w3) := HB2.out.trans (hb3.mono HB2.out.size)
  obtain ⟨a3, cap3, rfl, hc3, hm3, rd3⟩ := o3.rd (by decide)
  obtain ⟨pr1, pr2⟩ := HPR.out k
  have HW3 : Hid (Rd w3 a1 (vw L)) := HW.out.below hb3
  have hk3 := (HK.out.below hb3).ktake (KP k).length
  rw [pr2] at hk3
  have SC1 := fun x y => samep_any true (KP k) (KP k) a3 a2 x y w3 (by have := HP.out k; omega) (by have := HP.out k; omega) (by simp) rd3 hk3
  obtain ⟨M, hM⟩ : ∃ M, (KP k).length = M := ⟨_, rfl⟩
  have HMM : Hid ((KP k).length = M) := hM
  rw [hM] at SC1 hc3 pr1 ⊢
  have f1 : (M : Int) ≤ (m : Int) := by omega
  have f2 : (0 : Int) ≤ (M : Int) := by omega
  have f3 : (M : Int) ≤ (cap2 : Int) := by omega
  have f4 : ¬ (m : Int) < (M : Int) := by omega
  clear AC1 hb3 o3 rd3 hk3 pr2 hM HB2 HW HK HPR
  go_wp2_with fail
  go_at_call 16
  with_reducible refine (SC1 _ _).mono ?_
  rintro e w4 ⟨rfl, q, rfl⟩
  clear SC1
  have HB4 : Hid (Below w.heap.size w (w3.drewN q)) := dn HB3.out _
  have HW4 : Hid (Rd (w3.drewN q) a1 (vw L)) := HW3.out.below (dn (Below.refl _ _) _)
  clear HB3 HW3
  generalize w3.drewN q = w4 at *
  have A0 : Hid (Bk (w4.alloc (.cells (pj zjs) 64)) w4.heap.size (pj zjs) 64) := Bk.new _ _ _
  have A1 : Hid (Below w4.heap.size w4 (w4.alloc (.cells (pj zjs) 64))) := (Below.refl _ _).alloc (Nat.le_refl _) _
  go_upto_region 9 with (go_at_call 10; (with_reducible refine (new_any _).mono ?_); rintro e w' ⟨rfl, rfl⟩)
  generalize w4.alloc (.cells (pj zjs) 64) = v0 at *
  obtain ⟨b, hb⟩ : ∃ b, w4.heap.size = b := ⟨_, rfl⟩
  have HBB : Hid (w4.heap.size = b) := hb
  rw [hb] at A0 A1 ⊢
  have hb0 : b < v0.heap.size := A0.out.lt
  clear hb hc2 hm2
  go_wp2_with fail
  go_loopw [11, 12] (fun t i wr => ∃ j : Nat, j ≤ k ∧ i = .int .i64 j ∧ t = .int .i64 ((KP j).length : Int) ∧ Bk wr b (pj (SJ j)) 64 ∧ Below b w4 wr) (fun _ i _ => k - (RowKit.intOf i).toNat)
  case atStart => exact ⟨0, Nat.zero_le _, rfl, by rw [HZ.out.2]; rfl, by rw [HZ.out.1]; exact A0.out, A1.out⟩
  case round =>
    obtain ⟨j, hj, rfl, rfl, hjs, hbl⟩ := hrel
    clear A0 A1
    have HB : Hid (Below b w4 wr) := hbl
    have HJ : Hid (Bk wr b (pj (SJ j)) 64) := hjs
    have hbz : b < wr.heap.size := hjs.lt
    have h4 : w4.heap.size ≤ b := by rw [HBB.out]; exact Nat.le_refl _
    clear hbl hjs
    by_cases hlt : j < k
    case neg =>
      have e4 : ¬ (j : Int) < (k : Int) := by omega
      obtain rfl : j = k := by omega
      rw [HMM.out]
      have BC := begun_any HJ.out
      have HX9 : Hid (Below w.heap.size w wr) := HB4.out.trans (by have := HB.out; rw [← HBB.out] at this; exact this.mono HB4.out.size)
      by_cases hz : j = 0
      · subst hz
        rw [HZ.out.1] at BC
        have BC' : Calls Try.prog 13 #[.pointer (some ⟨b, 0, none⟩)] wr fun e w' => e = .returned (.bool false) ∧ wr = w' := BC
        clear BC HJ
        go_wp2_with (go_at_call 13; (with_reducible refine BC'.mono ?_); rintro e w' ⟨rfl, rfl⟩)
        go_ret
        exact ⟨rfl, HX9.out⟩
      · obtain ⟨i, rfl⟩ : ∃ i, j = i + 1 := ⟨j - 1, by omega⟩
        obtain ⟨W, hW, hW2, h1, h2, h3⟩ := HS.out i (by omega)
        rw [h2] at BC
        obtain ⟨g, o, rfl, hg, c0'⟩ := HW4.out i _ hW
        have hgb : g < b := by rw [← HBB.out]; exact hg
        have c0 := (HB.out.cell (p := ⟨g, o + i, none⟩) hgb).trans c0'
        have hw4 : (W : Int).tmod 4 = ((W % 4 : Nat) : Int) := by rw [Int.tmod_eq_emod_of_nonneg (by omega)]; omega
        have x1 : max ((i : Int) + 1) 1 = (i : Int) + 1 := by omega
        have x2 : (0 : Int) < (i : Int) + 1 := by omega
        have x3 : (i : Int) < (n : Int) := by omega
        have x4 : (0 : Int) ≤ (i : Int) := by omega
        clear h1 h2 h3 hW c0' hg HJ HB HW4 hz
        obtain ⟨z, hz⟩ : ∃ z : Int, (W : Int).tmod 4 = z := ⟨_, rfl⟩
        obtain ⟨y, hy⟩ : ∃ y, decide (¬ W % 4 = 3) = y := ⟨_, rfl⟩
        rw [hy] at BC
        by_cases h43 : W % 4 = 3
        · obtain rfl : z = 3 := by omega
          obtain rfl : y = false := by rw [← hy]; simp [h43]
          clear hw4 hy h43
          go_wp2_with (go_at_call 13; (with_reducible refine BC.mono ?_); rintro e w' ⟨rfl, rfl⟩)
          go_ret
          exact ⟨rfl, HX9.out⟩
        · have e7 : (z != 3) = true := by simp; omega
          obtain rfl : y = true := by rw [← hy]; simp [h43]
          clear hw4 hy h43
          go_wp2_with (go_at_call 13; (with_reducible refine BC.mono ?_); rintro e w' ⟨rfl, rfl⟩)
          go_ret
          exact ⟨rfl, HX9.out⟩
    have e4 : (j : Int) < (k : Int) := by omega
    have e5 : (0 : Int) ≤ (j : Int) := by omega
    have e6 : (j : Int) < (n : Int) := by omega
    obtain ⟨W, hW, hW2, h1, h2, h3⟩ := HS.out j (by omega)
    obtain ⟨g, o, rfl, hg, c0'⟩ := HW4.out j _ hW
    have hgb : g < b := by rw [← HBB.out]; exact hg
    have c0 := (HB.out.cell (p := ⟨g, o + j, none⟩) hgb).trans c0'
    have hpn := HP.out j
    have CC := TC (SJ j) W hW2 (Nat.le_trans (HX.out j) (by omega)) b wr HJ.out
    obtain ⟨r, hr⟩ : ∃ r, TK (SJ j) W = r := ⟨_, rfl⟩
    rw [hr] at CC h1
    clear hr hW c0' hg h2
    obtain ⟨j2, ⟨qs, qd, qq, qx⟩, pb, pe⟩ := r
    simp only at h1
    have HJ2 : Hid (SJ (j + 1) = j2) := h1
    have HP2 : Hid ((KP (j + 1)).length = (KP j).length + if W % 4 = 3 then 1 else 0) := h3
    clear h1 h3
    simp only [pkv, pkc] at CC
    go_upto_region 14 with (go_at_call 11; (with_reducible refine CC.mono ?_); rintro e w5 ⟨rfl, hk2, hg2⟩)
    have K1 : Hid (Bk w5 b (pj j2) 64) := hk2
    have B1 : Hid (Below b w4 w5) := below_gb HB.out hg2 (Nat.le_refl _) (Nat.le_of_lt hbz)
    have c1 : w5.cell? ⟨g, o + j, none⟩ = some (.int .u64 (W : Int)) := by
      have := hg2.out.cell c0 (fun e => by injection e with e; simp only at e; omega)
      exact this
    clear CC HJ HB hk2 hg2 c0 hbz
    have hw4 : (W : Int).tmod 4 = ((W % 4 : Nat) : Int) := by rw [Int.tmod_eq_emod_of_nonneg (by omega)]; omega
    by_cases h43 : W % 4 = 3
    · have e7 : ((W % 4 : Nat) : Int) = 3 := by omega
      have HP3' : (KP (j + 1)).length = (KP j).length + 1 := by rw [HP2.out, if_pos h43]
      have HP3 : Hid ((KP (j + 1)).length = (KP j).length + 1) := HP3'
      clear HP3'
      rw [e7] at hw4
      clear HP2 e7 h43
      generalize (KP j).length = t0 at *
      go_wp2
      go_roundw
      case rel => exact ⟨j + 1, by omega, by go_num, by rw [HP3.out]; go_num, by rw [HJ2.out]; exact K1.out, B1.out⟩
      case measure => simp [RowKit.intOf]; omega
    · have HP3' : (KP (j + 1)).length = (KP j).length := by rw [HP2.out, if_neg h43]; rfl
      have HP3 : Hid ((KP (j + 1)).length = (KP j).length) := HP3'
      obtain ⟨z, hz⟩ : ∃ z : Int, (W : Int).tmod 4 = z := ⟨_, rfl⟩
      have e7 : ¬ z = 3 := by omega
      clear HP2 h43 hw4 HP3'
      generalize (KP j).length = t0 at *
      go_wp2
      go_roundw
      case rel => exact ⟨j + 1, by omega, by go_num, by rw [HP3.out], by rw [HJ2.out]; exact K1.out, B1.out⟩
      case measure => simp [RowKit.intOf]; omega
end Go.Proofs.Ytockjijhckkicaa
