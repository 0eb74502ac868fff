/-
  The walk of All: words that are all taken.
-/
import Derived.Test.YtockjijhckkicaaSeq
namespace Go.Proofs.Ytockjijhckkicaa
open Go.RowKit

theorem Try.infoK : (Try.prog.info? 33).map (fun i => (i.zero, i.size, i.bytes)) = some (some (.agg #[.int .i64 0, .int .i64 0, .int .i64 0, .string ⟨#[]⟩]), 4, 40) := by kernel_rfl

set_option maxRecDepth 100000 in
set_option maxHeartbeats 8000000 in
theorem all_any (L : List Nat) (hL : okR takeR zjs L) (hl : L.length ≤ 1000) (hw : ∀ x ∈ L, x < 18446744073709551616) (a : Option Addr) (cap : Nat) (w : World) (hr : Rd w a (vw L)) :
    Calls Try.prog 15 #[.slice a L.length cap] w fun e w' => ∃ v, e = .returned (.tuple #[v, .int .i64 (L.length : Int)]) ∧ OwnK 33 4 w' w.heap.size v (pcks takeR zjs L).length (kcs (pcks takeR zjs L)) ∧ Below w.heap.size w w' := by
  have TC := fun j W h1 h2 b w h => take_any j W h1 h2 b w h
  obtain ⟨i5, k5, y0, y1, y2⟩ := info_parts Try.infoK
  have HR : Hid (Rd w a (vw L)) := hr
  have HS : Hid (∀ k, k < L.length → ∃ W : Nat, (vw L)[k]? = some (.int .u64 (W : Int)) ∧ W < 18446744073709551616 ∧ (takeR (sj takeR L k) W).2.2.2 = 0 ∧ sj takeR L (k + 1) = (takeR (sj takeR L k) W).1 ∧ kp takeR L (k + 1) = kp takeR L k ++ (if (takeR (sj takeR L k) W).2.2.1 = true then [(takeR (sj takeR L k) W).2.1] else [])) := show _ from fun k hk => by
    have hk' : L[k]? = some L[k] := List.getElem?_eq_getElem hk
    obtain ⟨s1, s2⟩ := sj_step (T := takeR) hk'
    exact ⟨L[k], by unfold vw; rw [List.getElem?_map, hk']; rfl, hw _ (List.getElem_mem hk), ok_at hL hk', s1, s2⟩
  have HX : Hid (∀ k, (sj takeR L k).x.size ≤ 6 * k) := sj_x takeR_six
  have HP : Hid (∀ k, (kp takeR L k).length ≤ k) := fun k => kp_small k
  have HZ : Hid (sj takeR L 0 = zjs ∧ kp takeR L 0 = []) := ⟨rfl, rfl⟩
  have HE : Hid (kp takeR L L.length = pcks takeR zjs L) := sj_all.2
  obtain ⟨n, hn⟩ : ∃ n, L.length = n := ⟨_, rfl⟩
  rw [hn] at hl HS HE ⊢
  obtain ⟨RK, hRK⟩ : ∃ R, pcks takeR zjs L = R := ⟨_, rfl⟩
  rw [hRK] at HE ⊢
  generalize sj takeR L = SJ at *
  generalize kp takeR L = KP at *
  generalize takeR = TK at *
  clear hL hw hr hn hRK
  have A0 : Hid (Bk (w.alloc (.cells (pj zjs) 64)) w.heap.size (pj zjs) 64) := Bk.new _ _ _
  have A1 : Hid (Below w.heap.size w (w.alloc (.cells (pj zjs) 64))) := (Below.refl _ _).alloc (Nat.le_refl _) _
  go_enter Try.func15, Try.ntmps15
  go_upto_region 3 with (go_at_call 10; (with_reducible refine (new_any _).mono ?_); rintro e w' ⟨rfl, rfl⟩)
  generalize w.alloc (.cells (pj zjs) 64) = v0 at *
  obtain ⟨b, hb⟩ : ∃ b, w.heap.size = b := ⟨_, rfl⟩
  rw [hb] at A0 A1 ⊢
  have hb0 : b < v0.heap.size := A0.out.lt
  go_wp2_with fail
  go_loopw [4, 14] (fun v i wr => ∃ k : Nat, k ≤ n ∧ i = .int .i64 k ∧ Bk wr b (pj (SJ k)) 64 ∧ OwnK 33 4 wr (b + 1) v (KP k).length (kcs (KP k)) ∧ Below b w wr) (fun _ i _ => n - (RowKit.intOf i).toNat)
  case atStart => exact ⟨0, Nat.zero_le _, rfl, by rw [HZ.out.1]; exact A0.out, by rw [HZ.out.2]; exact OwnK.nil _ _ _ _, A1.out⟩
  case round =>
    obtain ⟨k, hk, rfl, hj, ho, hbl⟩ := hrel
    clear A0 A1 HZ
    have HO : Hid (OwnK 33 4 wr (b + 1) u4 (KP k).length (kcs (KP k))) := ho
    have HB : Hid (Below b w wr) := hbl
    have HJ : Hid (Bk wr b (pj (SJ k)) 64) := hj
    obtain ⟨v, rfl⟩ : ∃ v, v = u4 := ⟨_, rfl⟩
    have hbz : b < wr.heap.size := hj.lt
    clear ho hbl hj
    by_cases hlt : k < n
    case neg =>
      have e1 : ¬ (k : Int) < (n : Int) := by omega
      obtain rfl : k = n := by omega
      go_wp2
      refine bodyPost_ret (v := .tuple #[v, .int .i64 (k : Int)]) (by simp [results, Try.results15, go_sem]) rfl ⟨v, rfl, ?_, HB.out⟩
      rw [← HE.out]
      exact HO.out.mono (Nat.le_succ _)
    have e1 : (k : Int) < (n : Int) := by omega
    have e0 : (0 : Int) ≤ (k : Int) := by omega
    obtain ⟨W, hW, hW2, h0, h1, h2⟩ := HS.out k hlt
    obtain ⟨g, o, rfl, hg, c0'⟩ := HR.out k _ hW
    have hgb : g < b := by rw [← hb]; exact hg
    have c0 := (HB.out.cell (p := ⟨g, o + k, none⟩) hgb).trans c0'
    have hpn := HP.out k
    have CC := TC (SJ k) W hW2 (Nat.le_trans (HX.out k) (by omega)) b wr HJ.out
    obtain ⟨r, hr⟩ : ∃ r, TK (SJ k) W = r := ⟨_, rfl⟩
    rw [hr] at CC h0 h1 h2
    clear hr hW hW2 c0' hg
    obtain ⟨j2, ⟨ps, pd, pq, px⟩, pb, pe⟩ := r
    simp only at h0 h1 h2
    subst h0
    have HJ2 : Hid (SJ (k + 1) = j2) := h1
    have HP2 : Hid (KP (k + 1) = KP k ++ (if pb = true then [⟨ps, pd, pq, px⟩] else [])) := h2
    clear h1 h2
    simp only [pkv, pkc] at CC
    go_upto_region 7 with (go_at_call 11; (with_reducible refine CC.mono ?_); rintro e w2 ⟨rfl, hk2, hg2⟩)
    have K1 : Hid (Bk (w2.alloc (.cells #[.int .i64 ps, .int .i64 pd, .int .i64 pq, .string px] 33)) b (pj j2) 64) := hk2.alloc _
    have m1 : v.ownBlock ≠ some b := fun h => by have := (HO.out.lt h).1; omega
    have O1 : Hid (OwnK 33 4 (w2.alloc (.cells #[.int .i64 ps, .int .i64 pd, .int .i64 pq, .string px] 33)) (b + 1) v (KP k).length (kcs (KP k))) := (HO.out.gb hg2 m1).below ((Below.refl _ _).alloc (Nat.le_refl _) _)
    have B1 : Hid (Below b w (w2.alloc (.cells #[.int .i64 ps, .int .i64 pd, .int .i64 pq, .string px] 33))) := (below_gb HB.out hg2 (Nat.le_refl _) (Nat.le_of_lt hbz)).alloc (Nat.le_trans (Nat.le_of_lt hbz) hg2.size) _
    have P1 : Hid (Bk (w2.alloc (.cells #[.int .i64 ps, .int .i64 pd, .int .i64 pq, .string px] 33)) w2.heap.size #[.int .i64 ps, .int .i64 pd, .int .i64 pq, .string px] 33) := Bk.new _ _ _
    have hbz2 : b < (w2.alloc (.cells #[.int .i64 ps, .int .i64 pd, .int .i64 pq, .string px] 33)).heap.size := K1.out.lt
    have hbf : b < w2.heap.size := Nat.lt_of_lt_of_le hbz hg2.size
    clear CC HJ HO HB hk2 hg2 c0 m1 hbz
    generalize w2.alloc (.cells #[.int .i64 ps, .int .i64 pd, .int .i64 pq, .string px] 33) = v2 at *
    generalize w2.heap.size = c at *
    have d0 := P1.out.cell 0
    have d1 := P1.out.cell 1
    have d2 := P1.out.cell 2
    have d3 := P1.out.cell 3
    simp only [List.getElem?_toArray, List.getElem?_cons_zero, List.getElem?_cons_succ] at d0 d1 d2 d3
    cases pb
    · go_wp2
      go_roundw
      case rel => exact ⟨k + 1, by omega, by go_num, by rw [HJ2.out]; exact K1.out, by rw [HP2.out, if_neg (by decide), List.append_nil]; exact O1.out, B1.out⟩
      case measure => simp [RowKit.intOf]; omega
    have O2 : OwnK 33 4 (v2.alloc (.cells #[.int .i64 ps, .int .i64 pd, .int .i64 pq, .string px] 33)) (b + 1) v (KP k).length (kcs (KP k)) := O1.out.below ((Below.refl _ _).alloc (Nat.le_refl _) _)
    have K2 : Hid (Bk (v2.alloc (.cells #[.int .i64 ps, .int .i64 pd, .int .i64 pq, .string px] 33)) b (pj j2) 64) := K1.out.alloc _
    have B2 : Hid (Below b w (v2.alloc (.cells #[.int .i64 ps, .int .i64 pd, .int .i64 pq, .string px] 33))) := B1.out.alloc (Nat.le_of_lt hbz2) _
    have R2 : Rd (v2.alloc (.cells #[.int .i64 ps, .int .i64 pd, .int .i64 pq, .string px] 33)) (some ⟨v2.heap.size, 0, none⟩) (kcs [⟨ps, pd, pq, px⟩]) := fun j u hj => ⟨v2.heap.size, 0, rfl, (Bk.new v2 #[.int .i64 ps, .int .i64 pd, .int .i64 pq, .string px] 33).lt, by
      rw [Nat.zero_add, (Bk.new v2 #[.int .i64 ps, .int .i64 pd, .int .i64 pq, .string px] 33).cell j]
      simpa [kcs] using hj⟩
    have hl6 : (KP k).length + 1 ≤ 1000000 := by omega
    have hs6 : b + 1 ≤ (v2.alloc (.cells #[.int .i64 ps, .int .i64 pd, .int .i64 pq, .string px] 33)).heap.size := K2.out.lt
    have O2h : Hid (OwnK 33 4 (v2.alloc (.cells #[.int .i64 ps, .int .i64 pd, .int .i64 pq, .string px] 33)) (b + 1) v (KP k).length (kcs (KP k))) := O2
    go_upto_region 11 with (at_builtin; go_loud (refine wpList_app_rowk rfl (.tmp 31) (.tmp 33) 25 33 i5 (.agg #[.int .i64 0, .int .i64 0, .int .i64 0, .string ⟨#[]⟩]) 4 40 rfl Try.underlying25 k5 y0 y1 y2 rfl (by decide) (by decide) (b + 1) (v2.alloc (.cells #[.int .i64 ps, .int .i64 pd, .int .i64 pq, .string px] 33)) v (KP k).length (kcs (KP k)) rfl O2 v2.heap.size 0 1 1 rfl (kcs [⟨ps, pd, pq, px⟩]) rfl R2 (kcs_one _) hl6 hs6 ?_; intro v' w7 o7 g7))
    have m1 : v.ownBlock ≠ some b := fun h => by have := (O2h.out.lt h).1; omega
    have m2 : ∀ r, v.ownBlock = some r → b ≤ r := fun r h => by have := (O2h.out.lt h).1; omega
    have K3 : Hid (Bk w7 b (pj j2) 64) := K2.out.kept g7 m1
    have B3 : Hid (Below b w w7) := Below.grown B2.out g7 (Nat.le_of_lt (Nat.lt_of_succ_le hs6)) m2
    have O3 : Hid (OwnK 33 4 w7 (b + 1) v' (KP (k + 1)).length (kcs (KP (k + 1)))) := by
      rw [HP2.out, if_pos rfl, kcs_app, List.length_append]
      exact o7
    clear o7 g7 O2 K2 B2 R2 hl6 hs6 O2h d0 d1 d2 d3 P1
    go_wp2
    go_roundw
    case rel => exact ⟨k + 1, by omega, by go_num, by rw [HJ2.out]; exact K3.out, O3.out, B3.out⟩
    case measure => simp [RowKit.intOf]; omega
end Go.Proofs.Ytockjijhckkicaa
