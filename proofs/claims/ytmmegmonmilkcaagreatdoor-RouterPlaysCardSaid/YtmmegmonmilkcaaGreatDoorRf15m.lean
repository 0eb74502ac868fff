/-
 The document's router, by value: Move. (Written by gen_rf15m.py.)
-/
import Derived.Test.YtmmegmonmilkcaaGreatDoorRf14t
import Derived.Deep.CutBlock
namespace Go.Proofs.YtmmegmonmilkcaaGreatDoor
open Go.RowKit
set_option maxRecDepth 100000 in
set_option maxHeartbeats 8000000 in
theorem rmove15 {w : World} {c : G.Cf} {S : RS} {v : Value} {D : Nat → Prop} (h : DR w c S v D) (ok : ROk S) (hn : (S.n : Int) = c.l) (p : Int) (Lm : List Bool) (am : Option Addr) (cm : Nat) (hm : Rd w am (R12.vb Lm)) :
  Calls Tryz.prog 23 #[v, .int .i64 p, .slice am Lm.length cm] w fun e w' => ∃ v', e = .returned (.tuple #[v', .agg (mvc (moveRt S p (mayB Lm)).2.1 ((moveRt S p (mayB Lm)).2.2.1 / S.n) ((moveRt S p (mayB Lm)).2.2.1 % S.n)), .bool (moveRt S p (mayB Lm)).2.2.2]) ∧ DR w' c (moveRt S p (mayB Lm)).1 v' (fun g => D g ∨ w.heap.size ≤ g) ∧ Below w.heap.size w w' := by
 obtain ⟨L, g1, g2, g3, g4, c1, c2, c3, c4, rfl, eL, r, dd, xx⟩ := h
 have DR0 : Hid (∀ u, Below w.heap.size w u → DR u c S (rrv c S.node (.slice (some ⟨g1, 0, none⟩) (5 * S.n) c1) (.slice (some ⟨g2, 0, none⟩) (5 * S.n) c2) (.slice (some ⟨g3, 0, none⟩) 5 c3) (.slice (some ⟨g4, 0, none⟩) 5 c4)) (fun g => D g ∨ w.heap.size ≤ g)) := show _ from fun u hu => (DR.next (show DR w c S _ D from ⟨L, g1, g2, g3, g4, c1, c2, c3, c4, rfl, eL, r, dd, xx⟩) hu).mono fun g _ hg => Or.inl hg
 by_cases hin : 0 ≤ p ∧ p < 5
 case neg =>
  have e1 : moveRt S p (mayB Lm) = (S, zko, 0, false) := by unfold moveRt; rw [if_neg hin]
  rw [e1]
  simp only [Nat.zero_div, Nat.zero_mod]
  clear e1 xx r eL dd ok hm
  generalize S.n = n at *
  generalize S.node = node at *
  obtain ⟨cw, ch, cl, cd, cr, ci, cb, we, ca⟩ := c
  simp only [rrv, rrc, mvc, zko] at *
  subst hn
  generalize Lm.length = lm at *
  by_cases h0 : p < 0
  ·clear hin
   have hb0 : decide (p < 0) = true := decide_eq_true h0
   have X0 : Hid (S3 w (((w.alloc (.cells (zqP cw ch n cd cr ci cb we ca node g1 c1 g2 c2 g3 c3 g4 c4 (5 * n)) 34)).alloc (.cells zqZ 34)).alloc (.cells (zq1 0 0 0 false false 0 0) 58)) w.heap.size (zqP cw ch n cd cr ci cb we ca node g1 c1 g2 c2 g3 c3 g4 c4 (5 * n)) zqZ (zq1 0 0 0 false false 0 0)) := S3.start w _ _ _
   go_enter Tryz.func23, Tryz.ntmps23
   go_upto_region 1 with fail
   generalize (((w.alloc (.cells (zqP cw ch n cd cr ci cb we ca node g1 c1 g2 c2 g3 c3 g4 c4 (5 * n)) 34)).alloc (.cells zqZ 34)).alloc (.cells (zq1 0 0 0 false false 0 0) 58)) = v0 at *
   obtain ⟨b, hb⟩ : ∃ b, w.heap.size = b := ⟨_, rfl⟩
   rw [hb] at X0 ⊢
   clear hb
   go_wp2_with (first
    | (refine wpList_load_bk rfl 34 (.tmp 3) rfl b rfl _ X0.out.s.p Tryz.underlying34 rfl (by kernel_rfl) ?_)
    | (refine wpList_store_bk rfl 34 (.tmp 6) (.tmp 25) rfl (b + 1) (zqP cw ch n cd cr ci cb we ca node g1 c1 g2 c2 g3 c3 g4 c4 (5 * n)) rfl rfl X0.out.s.r (by kernel_rfl) rfl rfl ?_; intro wF qF oF)
    | (refine wpList_store_bk rfl 58 (.tmp 7) (.tmp 26) rfl (b + 2) (zq1 0 0 0 false false 0 0) rfl rfl (X0.out.ret1 oF qF).o (by kernel_rfl) rfl rfl ?_; intro wG qG oG))
   have XF := (X0.out.ret1 oF qF).ret2 oG qG
   exact bodyPost_ret (v := .tuple #[.agg (zqP cw ch n cd cr ci cb we ca node g1 c1 g2 c2 g3 c3 g4 c4 (5 * n)), .agg (zq1 0 0 0 false false 0 0), .bool false]) (results_cct (P := Tryz.prog) Tryz.results23 _ _ (b + 1) (b + 2) 34 58 _ _ _ _ rfl XF.s.r Tryz.underlying34 rfl (by kernel_rfl) rfl XF.o Tryz.underlying58 rfl (by kernel_rfl)) rfl ⟨_, rfl, DR0.out _ XF.bl, XF.bl⟩
  ·have h4 : 4 < p := by omega
   clear hin
   have X0 : Hid (S3 w (((w.alloc (.cells (zqP cw ch n cd cr ci cb we ca node g1 c1 g2 c2 g3 c3 g4 c4 (5 * n)) 34)).alloc (.cells zqZ 34)).alloc (.cells (zq1 0 0 0 false false 0 0) 58)) w.heap.size (zqP cw ch n cd cr ci cb we ca node g1 c1 g2 c2 g3 c3 g4 c4 (5 * n)) zqZ (zq1 0 0 0 false false 0 0)) := S3.start w _ _ _
   go_enter Tryz.func23, Tryz.ntmps23
   go_upto_region 1 with fail
   generalize (((w.alloc (.cells (zqP cw ch n cd cr ci cb we ca node g1 c1 g2 c2 g3 c3 g4 c4 (5 * n)) 34)).alloc (.cells zqZ 34)).alloc (.cells (zq1 0 0 0 false false 0 0) 58)) = v0 at *
   obtain ⟨b, hb⟩ : ∃ b, w.heap.size = b := ⟨_, rfl⟩
   rw [hb] at X0 ⊢
   clear hb
   go_wp2_with (first
    | (refine wpList_load_bk rfl 34 (.tmp 3) rfl b rfl _ X0.out.s.p Tryz.underlying34 rfl (by kernel_rfl) ?_)
    | (refine wpList_store_bk rfl 34 (.tmp 6) (.tmp 25) rfl (b + 1) (zqP cw ch n cd cr ci cb we ca node g1 c1 g2 c2 g3 c3 g4 c4 (5 * n)) rfl rfl X0.out.s.r (by kernel_rfl) rfl rfl ?_; intro wF qF oF)
    | (refine wpList_store_bk rfl 58 (.tmp 7) (.tmp 26) rfl (b + 2) (zq1 0 0 0 false false 0 0) rfl rfl (X0.out.ret1 oF qF).o (by kernel_rfl) rfl rfl ?_; intro wG qG oG))
   have XF := (X0.out.ret1 oF qF).ret2 oG qG
   exact bodyPost_ret (v := .tuple #[.agg (zqP cw ch n cd cr ci cb we ca node g1 c1 g2 c2 g3 c3 g4 c4 (5 * n)), .agg (zq1 0 0 0 false false 0 0), .bool false]) (results_cct (P := Tryz.prog) Tryz.results23 _ _ (b + 1) (b + 2) 34 58 _ _ _ _ rfl XF.s.r Tryz.underlying34 rfl (by kernel_rfl) rfl XF.o Tryz.underlying58 rfl (by kernel_rfl)) rfl ⟨_, rfl, DR0.out _ XF.bl, XF.bl⟩
 obtain ⟨q, rfl⟩ : ∃ q : Nat, p = (q : Int) := ⟨p.toNat, by omega⟩
 have hq5 : q < 5 := by omega
 have hn0 : 0 < 5 * S.n := by have := ok.n1; omega
 have CC : Hid (∀ u, Below w.heap.size w u → Calls Tryz.prog 44 #[rrv c S.node (.slice (some ⟨g1, 0, none⟩) (5 * S.n) c1) (.slice (some ⟨g2, 0, none⟩) (5 * S.n) c2) (.slice (some ⟨g3, 0, none⟩) 5 c3) (.slice (some ⟨g4, 0, none⟩) 5 c4)] u fun e w' => ∃ k1 k2 k3 k4 d1 d2 d3 d4, e = .returned (rrv c S.node (.slice (some ⟨k1, 0, none⟩) (5 * S.n) d1) (.slice (some ⟨k2, 0, none⟩) (5 * S.n) d2) (.slice (some ⟨k3, 0, none⟩) 5 d3) (.slice (some ⟨k4, 0, none⟩) 5 d4)) ∧ R4 w' k1 k2 k3 k4 d1 d2 d3 d4 S.n (lrow L) (vi S.own) (frow S.n S.gv) (frow (5 * S.n) S.mv) ∧ (u.heap.size ≤ k1 ∧ u.heap.size ≤ k2 ∧ u.heap.size ≤ k3 ∧ u.heap.size ≤ k4) ∧ Below u.heap.size u w') := show _ from fun u hu => rclone15 (X1 := lrow L) (X2 := vi S.own) (X3 := frow S.n S.gv) (X4 := frow (5 * S.n) S.mv) c S.node (R4.next r hu) ok.n1 ok.n8 (lrow_one L) (vi_one15 S.own) (frow_one S.n S.gv) (frow_one (5 * S.n) S.mv)
 have WX : Hid (∀ u, Below w.heap.size w u → ∀ k, k < 5 * S.n → ∃ (K : KS) (a : Option Addr) (cap : Nat), (u.cell? ⟨g1, k * 6, none⟩ = some (.int .i64 (K.r : Int)) ∧ u.cell? ⟨g1, k * 6 + 1, none⟩ = some (.int .i64 K.ph) ∧ u.cell? ⟨g1, k * 6 + 2, none⟩ = some (.int .i64 K.port) ∧ u.cell? ⟨g1, k * 6 + 3, none⟩ = some (.int .i64 K.lane) ∧ u.cell? ⟨g1, k * 6 + 4, none⟩ = some (.slice a K.ws.length cap) ∧ u.cell? ⟨g1, k * 6 + 5, none⟩ = some (.bool K.cp)) ∧ goesRt S (q : Int) (mayB Lm) k = (decide (K.ph = 2) && (decide (K.port = (q : Int)) && (decide (K.ws ≠ []) && (decide ((q : Int) = 0) || mayB Lm K.lane)))) ∧ (K.ph = 2 → K.port = (q : Int) → ¬ (q : Int) = 0 → 0 ≤ K.lane)) := show _ from fun u hu k hk => by
  obtain ⟨⟨K, a, cap⟩, hx0, hK, hxm, hkL⟩ := lw_at eL ok.il hk
  simp only at hK
  refine ⟨K, a, cap, lw_six (r.next hu).a1 hx0 hk, by rw [hK]; rfl, fun h1 h2 h3 => ?_⟩
  rw [hK] at h1 h2 ⊢
  exact (ok.io k hk h1 (by omega)).1
 have MX : Hid (∀ u, Below w.heap.size w u → ∀ j, j < Lm.length → ∃ g o, am = some ⟨g, o, none⟩ ∧ u.cell? ⟨g, o + j, none⟩ = some (.bool (R12.wl Lm j))) := show _ from fun u hu j hj => by
  obtain ⟨g, o, h1, _, h3⟩ := R12.Rd.truth (hm.below hu) hj
  exact ⟨g, o, h1, h3⟩
 have NX : Hid (∀ (u : World) (g : Nat) (cc : Nat), Bk u g (trA (goesRt S (q : Int) (mayB Lm)) (5 * S.n) (5 * S.n)) 4 → Calls Tryz.prog 57 #[.agg #[.int .i64 ((5 * S.n : Nat) : Int), .int .i64 ((S.mv.getD q 0 : Nat) - 1 : Int)], .slice (some ⟨g, 0, none⟩) (5 * S.n) cc] u fun e w' => e = .returned (.tuple #[.agg #[.int .i64 ((5 * S.n : Nat) : Int), .int .i64 ((nxtl (5 * S.n) (S.mv.getD q 0) (goesRt S (q : Int) (mayB Lm)) : Nat) - 1 : Int)], .int .i64 ((ask (5 * S.n) (S.mv.getD q 0) (goesRt S (q : Int) (mayB Lm))).1 : Int), .bool (ask (5 * S.n) (S.mv.getD q 0) (goesRt S (q : Int) (mayB Lm))).2]) ∧ Below u.heap.size u w') := show _ from fun u g cc hu => by
  have h9 := R12.rnext_any (5 * S.n) (S.mv.getD q 0) hn0 (by have := ok.n8; omega) (ok.mt q hq5) (some ⟨g, 0, none⟩) ((List.range (5 * S.n)).map (goesRt S (q : Int) (mayB Lm))) cc u (tr_rd hu)
  rw [List.length_map, List.length_range, ask_ext hn0 (fun k hk => wl_map hk), nxtl_congr (fun k hk => wl_map hk)] at h9
  exact h9
 have HI : Hid ((ask (5 * S.n) (S.mv.getD q 0) (goesRt S (q : Int) (mayB Lm))).1 < 5 * S.n) := show _ < _ from ask_lt hn0
 have TX : Hid (∀ u, Below w.heap.size w u → u.cell? ⟨g4, q * 2, none⟩ = some (.int .i64 ((5 * S.n : Nat) : Int)) ∧ u.cell? ⟨g4, q * 2 + 1, none⟩ = some (.int .i64 ((S.mv.getD q 0 : Nat) - 1 : Int))) := show _ from fun u hu => tn_cell (r.next hu).a4 hq5
 have e1 : moveRt S (q : Int) (mayB Lm) = if (ask (5 * S.n) (S.mv.getD q 0) (goesRt S (q : Int) (mayB Lm))).2 = true then
   (⟨S.n, S.node, S.ins.set (ask (5 * S.n) (S.mv.getD q 0) (goesRt S (q : Int) (mayB Lm))).1 (takeK (S.ins.getD (ask (5 * S.n) (S.mv.getD q 0) (goesRt S (q : Int) (mayB Lm))).1 zks)).1,
     if (takeK (S.ins.getD (ask (5 * S.n) (S.mv.getD q 0) (goesRt S (q : Int) (mayB Lm))).1 zks)).2.1.ends = true ∧ (q : Int) ≠ 0 then S.own.set (q * S.n + (takeK (S.ins.getD (ask (5 * S.n) (S.mv.getD q 0) (goesRt S (q : Int) (mayB Lm))).1 zks)).2.1.lane.toNat) (-1) else S.own,
     S.gv, S.mv.set q (nxtl (5 * S.n) (S.mv.getD q 0) (goesRt S (q : Int) (mayB Lm)))⟩,
    (takeK (S.ins.getD (ask (5 * S.n) (S.mv.getD q 0) (goesRt S (q : Int) (mayB Lm))).1 zks)).2.1, (ask (5 * S.n) (S.mv.getD q 0) (goesRt S (q : Int) (mayB Lm))).1, true) else (S, zko, 0, false) := by
  unfold moveRt
  rw [if_pos hin, Int.toNat_natCast]
 rw [e1]
 clear e1
 have HIS : Hid ((ask (5 * S.n) (S.mv.getD q 0) (goesRt S (q : Int) (mayB Lm))).2 = true → goesRt S (q : Int) (mayB Lm) (ask (5 * S.n) (S.mv.getD q 0) (goesRt S (q : Int) (mayB Lm))).1 = true) := show _ → _ from ask_is
 obtain ⟨AK, hAK⟩ : ∃ AK, ask (5 * S.n) (S.mv.getD q 0) (goesRt S (q : Int) (mayB Lm)) = AK := ⟨_, rfl⟩
 rw [hAK] at NX HI HIS ⊢
 obtain ⟨k, is⟩ := AK
 simp only at NX HI HIS
 obtain ⟨TK, hTK⟩ : ∃ TK, takeK (S.ins.getD k zks) = TK := ⟨_, rfl⟩
 rw [hTK]
 obtain ⟨K', o9, e9⟩ := TK
 dsimp only
 obtain ⟨owR, hR⟩ : ∃ owR, owR = (if o9.ends = true ∧ (q : Int) ≠ 0 then S.own.set (q * S.n + o9.lane.toNat) (-1) else S.own) := ⟨_, rfl⟩
 rw [← hR]
 have HR : Hid (owR = (if o9.ends = true ∧ (q : Int) ≠ 0 then S.own.set (q * S.n + o9.lane.toNat) (-1) else S.own)) := hR
 clear hR
 have KX : Hid (is = true → ∃ (K : KS) (a : Option Addr) (cap : Nat), (∀ u, Below w.heap.size w u → u.cell? ⟨g1, k * 6, none⟩ = some (.int .i64 (K.r : Int)) ∧ u.cell? ⟨g1, k * 6 + 1, none⟩ = some (.int .i64 K.ph) ∧ u.cell? ⟨g1, k * 6 + 2, none⟩ = some (.int .i64 K.port) ∧ u.cell? ⟨g1, k * 6 + 3, none⟩ = some (.int .i64 K.lane) ∧ u.cell? ⟨g1, k * 6 + 4, none⟩ = some (.slice a K.ws.length cap) ∧ u.cell? ⟨g1, k * 6 + 5, none⟩ = some (.bool K.cp)) ∧ (∀ u, Below w.heap.size w u → Calls Tryz.prog 65 #[lav K a cap] u fun e w' => ∃ a' cap', e = .returned (.tuple #[lav K' a' cap', .agg (ouc o9), .int .i64 0]) ∧ LaR w' K' a' cap' ∧ Below u.heap.size u w' ∧ Whence u.heap.size (K.ws ≠ []) a a') ∧ LaR w K a cap ∧ (∀ (u : World) k1 k2 k3 k4 d1 d2 d3 d4 (K' : KS) (a' : Option Addr) (cap' : Nat) (own' : List Int) (gv' mv' : List Nat), Below w.heap.size w u → R4 u k1 k2 k3 k4 d1 d2 d3 d4 S.n (lrow (L.set k (K', a', cap'))) (vi own') (frow S.n gv') (frow (5 * S.n) mv') → (w.heap.size ≤ k1 ∧ w.heap.size ≤ k2 ∧ w.heap.size ≤ k3 ∧ w.heap.size ≤ k4) → LaR u K' a' cap' → (K'.ws ≠ [] → Whence w.heap.size (K.ws ≠ []) a a') → DR u c ⟨S.n, S.node, S.ins.set k K', own', gv', mv'⟩ (rrv c S.node (.slice (some ⟨k1, 0, none⟩) (5 * S.n) d1) (.slice (some ⟨k2, 0, none⟩) (5 * S.n) d2) (.slice (some ⟨k3, 0, none⟩) 5 d3) (.slice (some ⟨k4, 0, none⟩) 5 d4)) (fun g => D g ∨ w.heap.size ≤ g)) ∧ (¬ (q : Int) = 0 → ∃ l9 : Nat, o9.lane = (l9 : Int) ∧ l9 < S.n)) := show _ → _ from fun hi => by
  obtain ⟨h1, h2, x, t, h3⟩ := goes_is (HIS.out hi)
  obtain ⟨⟨K, a, cap⟩, hx0, hK, hxm, hkL⟩ := lw_at eL ok.il HI.out
  simp only at hK
  have hio := ok.io k HI.out h1
  have okK : KOk K := by rw [hK]; exact ok.ik _ (ins_mem ok HI.out)
  rw [← hK] at h1 h2 h3 hTK hio
  have hT := takeK_of h1 h3
  rw [hTK] at hT
  cases hT
  refine ⟨K, a, cap, fun u hu => lw_six (r.next hu).a1 hx0 HI.out, fun u hu => ?_, (xx _ hxm).1, ( fun u k1 k2 k3 k4 d1 d2 d3 d4 K' a' cap' own' gv' mv' hu r4 hk la wh => by
    refine ⟨L.set k (K', a', cap'), k1, k2, k3, k4, d1, d2, d3, d4, rfl, by rw [List.map_set, eL], r4, ⟨Or.inr hk.1, Or.inr hk.2.1, Or.inr hk.2.2.1, Or.inr hk.2.2.2⟩, fun y hy => ?_⟩
    rcases List.mem_or_eq_of_mem_set hy with hy | rfl
    ·exact ⟨(xx y hy).1.next hu, fun h1 q hq => Or.inl ((xx y hy).2 h1 q hq)⟩
    ·refine ⟨la, fun h1 q hq => ?_⟩
     rcases wh h1 q hq with ⟨h2, z, hz, e9⟩ | h3
     ·exact Or.inl (e9 ▸ (xx _ hxm).2 h2 z hz)
     ·exact Or.inr h3), fun hq => ⟨K.lane.toNat, ?_, ?_⟩⟩
  ·obtain ⟨Kr, Kws, Kph, Kp, Kl, Kc⟩ := K
   simp only at h1 h3
   subst h1 h3
   have hx := okK.wi x (List.mem_cons_self ..)
   refine (rtake14 Kr x t Kp Kl Kc hx a cap u ((xx _ hxm).1.next hu)).mono ?_
   rintro e w' ⟨a', cap', h4, h5, h6, h7⟩
   exact ⟨a', cap', h4, h5, h6, fun z hz => (h7 z hz).imp (fun h8 => ⟨List.cons_ne_nil _ _, h8.2⟩) id⟩
  ·show K.lane = _
   have := (hio (by omega)).1
   omega
  ·have := hio (by omega)
   omega
 have HL : Hid (5 * S.n ≤ 40 ∧ q < 5 ∧ q < S.mv.length ∧ S.own.length = 5 * S.n ∧ S.n ≤ 8 ∧ 1 ≤ S.n ∧ L.length = 5 * S.n) := show _ ∧ _ ∧ _ ∧ _ ∧ _ ∧ _ ∧ _ from ⟨by have := ok.n8; omega, hq5, by rw [ok.ml]; exact hq5, ok.ol, ok.n8, ok.n1, by rw [← ok.il, ← eL, List.length_map]⟩
 generalize goesRt S (q : Int) (mayB Lm) = W at *
 clear hTK hAK HIS hin hn0 hq5 xx eL r ok hm
 generalize S.mv.getD q 0 = ml at *
 generalize nxtl (5 * S.n) ml W = nx at *
 generalize S.own = own at *
 generalize S.gv = gv at *
 generalize S.mv = mv at *
 generalize S.ins = ins at *
 generalize S.node = node at *
 generalize S.n = n at *
 obtain ⟨cw, ch, cl, cd, cr, ci, cb, we, ca⟩ := c
 simp only [rrv, rrc, lav, lac, mvc, zko, ouc] at *
 subst hn
 obtain ⟨N, hN⟩ : ∃ N, N = 5 * n := ⟨_, rfl⟩
 have HNN : Hid (N = 5 * n) := hN
 simp only [← hN] at NX TX HI WX HL DR0 CC KX ⊢
 clear hN
 have X0 : Hid (S3 w (((w.alloc (.cells (zqP cw ch n cd cr ci cb we ca node g1 c1 g2 c2 g3 c3 g4 c4 N) 34)).alloc (.cells zqZ 34)).alloc (.cells (zq1 0 0 0 false false 0 0) 58)) w.heap.size (zqP cw ch n cd cr ci cb we ca node g1 c1 g2 c2 g3 c3 g4 c4 N) zqZ (zq1 0 0 0 false false 0 0)) := S3.start w _ _ _
 go_enter Tryz.func23, Tryz.ntmps23
 go_upto_region 1 with fail
 generalize (((w.alloc (.cells (zqP cw ch n cd cr ci cb we ca node g1 c1 g2 c2 g3 c3 g4 c4 N) 34)).alloc (.cells zqZ 34)).alloc (.cells (zq1 0 0 0 false false 0 0) 58)) = v0 at *
 obtain ⟨b, hb⟩ : ∃ b, w.heap.size = b := ⟨_, rfl⟩
 rw [hb] at X0 ⊢
 clear hb
 have y10 : v0.cell? ⟨b, 10, none⟩ = some (.slice (some ⟨g1, 0, none⟩) N c1) := (X0.out.s.p.cell 10).trans rfl
 obtain ⟨i0, ki, hz0, hz1, hz2⟩ := info_parts (P := Tryz.prog) (e := 4) (z := .bool false) (size := 1) (bytes := 1) (by kernel_rfl)
 have hmk : ∀ v : World, (Instr.makeSlice 40 (.int .i64 (N : Int)) (.int .i64 (N : Int))).run Tryz.prog v = .ok (.slice (some ⟨v.heap.size, 0, none⟩) N N) (v.alloc (.cells (trA W N 0) 4)) := fun v => by
  have h8 := HL.out.1
  have := run_make (P := Tryz.prog) v 40 4 i0 (.bool false) Tryz.underlying40 ki hz0 .i64 .i64 (N : Int) (N : Int) (by omega) (Int.le_refl _) (by rw [hz2]; omega) (by omega)
  rw [hz1, Int.toNat_natCast] at this
  rw [← trA_made]
  exact this
 have q0 : ¬ (q : Int) < 0 := Int.not_lt.2 (Int.natCast_nonneg q)
 have q4 : ¬ (4 : Int) < (q : Int) := by have := HL.out.2.1; omega
 go_upto_region 4 with fail
 have X3 : Hid (S3 w (v0.alloc (.cells (trA W N 0) 4)) b (zqP cw ch n cd cr ci cb we ca node g1 c1 g2 c2 g3 c3 g4 c4 N) zqZ (zq1 0 0 0 false false 0 0)) := X0.out.next ((Below.refl _ _).alloc (Nat.le_refl _) _)
 have T3 : Hid (Bk (v0.alloc (.cells (trA W N 0) 4)) v0.heap.size (trA W N 0) 4) := Bk.new _ _ _
 have HB1 : Hid (b + 2 < v0.heap.size) := X0.out.lt
 clear X0 hmk y10 i0 ki hz0 hz1 hz2 q0 q4
 generalize v0.alloc (.cells (trA W N 0) 4) = v3 at *
 generalize v0.heap.size = wb at *
 go_wp2_with fail
 go_loopw [10] (fun x wr => ∃ i : Nat, i ≤ N ∧ x = .int .i64 (i : Int) ∧ S3 w wr b (zqP cw ch n cd cr ci cb we ca node g1 c1 g2 c2 g3 c3 g4 c4 N) zqZ (zq1 0 0 0 false false 0 0) ∧ Bk wr wb (trA W N i) 4) (fun x _ => N - (RowKit.intOf x).toNat)
 case atStart => exact ⟨0, Nat.zero_le _, rfl, X3.out, T3.out⟩
 case round =>
  clear X3 T3
  obtain ⟨i, him, rfl, X4', T4'⟩ := hrel
  have X4 : Hid _ := X4'
  have T4 : Hid (Bk wr wb (trA W N i) 4) := T4'
  clear X4' T4'
  by_cases hlt : i < N
  case neg =>
   have hi9 : i = N := by omega
   have e1 : ¬ (i : Int) < (N : Int) := by omega
   have T5 : Hid (Bk wr wb (trA W N N) 4) := show Bk _ _ _ _ from hi9 ▸ T4.out
   have hq5 : (q : Int) < 5 := by have := HL.out.2.1; omega
   obtain ⟨t0, t1⟩ := TX.out wr X4.out.bl
   clear him hlt hi9 T4
   have y10 : wr.cell? ⟨b, 10, none⟩ = some (.slice (some ⟨g1, 0, none⟩) N c1) := (X4.out.s.p.cell 10).trans rfl
   have y13 : wr.cell? ⟨b, 13, none⟩ = some (.slice (some ⟨g4, 0, none⟩) 5 c4) := (X4.out.s.p.cell 13).trans rfl
   go_upto_region 10 with (first
    | (go_at_call 57; with_reducible refine (NX.out _ wb N T5.out).mono ?_; rintro e w4 ⟨rfl, b4⟩)
    | (refine wpList_store_bk rfl 103 (.tmp 12) (.tmp 87) rfl w4.heap.size #[.int .i64 (N : Int), .int .i64 ((nx : Nat) - 1 : Int)] rfl rfl (Bk.new _ _ _) (by kernel_rfl) rfl rfl ?_; intro w5 s5 o5))
   have X5 : Hid _ := (X4.out.next b4).next (below_new o5)
   have F5 : Hid (Bk w5 w4.heap.size #[.int .i64 (N : Int), .int .i64 ((nx : Nat) - 1 : Int)] 103) := s5
   clear X4 b4 o5 s5 T5 t0 t1 y10 y13 e1 NX TX WX MX HB1
   generalize w4.heap.size = fq at *
   cases is with
   | false =>
    go_wp2_with (first
     | (refine wpList_load_bk rfl 34 (.tmp 3) rfl b rfl _ X5.out.s.p Tryz.underlying34 rfl (by kernel_rfl) ?_)
     | (refine wpList_store_bk rfl 34 (.tmp 6) (.tmp 92) rfl (b + 1) (zqP cw ch n cd cr ci cb we ca node g1 c1 g2 c2 g3 c3 g4 c4 N) rfl rfl X5.out.s.r (by kernel_rfl) rfl rfl ?_; intro wF qF oF)
     | (refine wpList_store_bk rfl 58 (.tmp 7) (.tmp 93) rfl (b + 2) (zq1 0 0 0 false false 0 0) rfl rfl (X5.out.ret1 oF qF).o (by kernel_rfl) rfl rfl ?_; intro wG qG oG))
    have XF := (X5.out.ret1 oF qF).ret2 oG qG
    exact bodyPost_ret (v := .tuple #[.agg (zqP cw ch n cd cr ci cb we ca node g1 c1 g2 c2 g3 c3 g4 c4 N), .agg (zq1 0 0 0 false false 0 0), .bool false]) (results_cct (P := Tryz.prog) Tryz.results23 _ _ (b + 1) (b + 2) 34 58 _ _ _ _ rfl XF.s.r Tryz.underlying34 rfl (by kernel_rfl) rfl XF.o Tryz.underlying58 rfl (by kernel_rfl)) rfl ⟨_, rfl, DR0.out _ XF.bl, XF.bl⟩
   | true =>
    obtain ⟨K, a, cap, SX', PC', HLA', FIN', HLN'⟩ := KX.out (by first | rfl | trivial)
    have SX : Hid _ := SX'
    have PC : Hid _ := PC'
    have HLA : Hid _ := HLA'
    have FIN : Hid _ := FIN'
    have HLN : Hid (¬ (q : Int) = 0 → ∃ l9 : Nat, o9.lane = (l9 : Int) ∧ l9 < n) := show _ → _ from HLN'
    clear SX' PC' HLA' FIN' HLN' KX
    go_upto_region 12 with fail
    go_upto_region 13 with (first
     | (refine wpList_load_bk rfl 34 (.tmp 3) rfl b rfl _ X5.out.s.p Tryz.underlying34 rfl (by kernel_rfl) ?_)
     | (go_at_call 44; with_reducible refine (CC.out _ X5.out.bl).mono ?_; rintro e w2 ⟨k1, k2, k3, k4, d1, d2, d3, d4, rfl, r4, hkk, b2⟩)
     | (refine wpList_store_bk rfl 34 (.tmp 15) (.tmp 95) rfl w2.heap.size (zqP cw ch n cd cr ci cb we ca node k1 d1 k2 d2 k3 d3 k4 d4 N) rfl rfl (Bk.new _ _ _) (by kernel_rfl) rfl rfl ?_; intro w3 s3 o3))
    have X3 : Hid _ := (X5.out.next b2).next (below_new o3)
    have N3 : Hid _ := N5.of r4 X5.out.lt b2.size hkk s3 o3
    have F3 : Hid (Bk w3 fq #[.int .i64 (N : Int), .int .i64 ((nx : Nat) - 1 : Int)] 103) := (F5.out.next b2).next (below_new o3)
    clear X5 F5 b2 r4 s3 o3 hkk CC
    generalize w2.heap.size = mm at *
    obtain ⟨cur, hcur, hsz, hset⟩ := N3.out.set4 HL.out.2.2.1 nx
    have HS : Hid _ := hset
    have z13 : w3.cell? ⟨mm, 13, none⟩ = some (.slice (some ⟨k4, 0, none⟩) 5 d4) := (N3.out.o.cell 13).trans rfl
    clear hset
    go_upto_region 14 with (first
     | (refine wpList_load_bk rfl 103 (.tmp 12) rfl fq rfl _ F3.out Tryz.underlying103 rfl (by kernel_rfl) ?_)
     | (refine wpList_store_part rfl 103 (.tmp 100) (.tmp 99) rfl k4 (q * 2) #[.int .i64 (N : Int), .int .i64 ((nx : Nat) - 1 : Int)] rfl rfl hcur (by kernel_rfl) hsz rfl ?_; intro w6 s6 o6))
    have M6 : Hid _ := HS.out w6 s6 o6
    have X6 : Hid _ := X3.out.on o6 N3.out.lt.2.2.2.2
    clear X3 N3 HS hcur hsz z13 s6 o6 F3
    obtain ⟨x0, x1, x2, x3, x4, x5⟩ := SX.out _ X6.out.bl
    have hkn : (k : Int) < (N : Int) := Int.ofNat_lt.2 HI.out
    have y10 : w6.cell? ⟨b, 10, none⟩ = some (.slice (some ⟨g1, 0, none⟩) N c1) := (X6.out.s.p.cell 10).trans rfl
    go_upto_region 15 with (first
     | (go_at_call 65; with_reducible refine (PC.out _ X6.out.bl).mono ?_; rintro e w8 ⟨a', cap', rfl, la, b8, wh⟩)
     | (refine wpList_store_bk rfl 100 (.tmp 16) (.tmp 108) rfl w8.heap.size (zq2 (K'.r : Int) K'.ph K'.port K'.lane a' K'.ws.length cap' K'.cp) rfl rfl (two_new _ _ _ _ _).1 (by kernel_rfl) rfl rfl ?_; intro w9 s9 p9)
     | (refine wpList_store_bk rfl 56 (.tmp 17) (.tmp 109) rfl (w8.heap.size + 1) (zq4 o9.port o9.lane (o9.word : Int) o9.copy o9.ends) rfl rfl ((two_new w8 _ _ _ _).2.on p9 (by omega)) (by kernel_rfl) rfl rfl ?_; intro w10 s10 p10))
    have X8 : Hid _ := (X6.out.next b8).next (below_new2 p9 p10)
    have M8 : Hid _ := (M6.out.next b8).next (below_new2 p9 p10)
    have LA8 : Hid (LaR w10 K' a' cap') := la.next (below_new2 p9 p10)
    have S8 : Hid (Bk w10 w8.heap.size (zq2 (K'.r : Int) K'.ph K'.port K'.lane a' K'.ws.length cap' K'.cp) 100 ∧ Bk w10 (w8.heap.size + 1) (zq4 o9.port o9.lane (o9.word : Int) o9.copy o9.ends) 56 ∧ b + 2 < w8.heap.size ∧ k1 < w8.heap.size ∧ k2 < w8.heap.size) := show _ ∧ _ ∧ _ ∧ _ ∧ _ from ⟨s9.on p10 (by omega), s10, Nat.lt_of_lt_of_le X6.out.lt b8.size, Nat.lt_of_lt_of_le (M6.out.r.lt k1 (Or.inl rfl)) b8.size, Nat.lt_of_lt_of_le (M6.out.r.lt k2 (Or.inr (Or.inl rfl))) b8.size⟩
    have HQ : Hid (∀ x', a' = some x' → x'.block ≠ k1 ∧ x'.block ≠ k2 ∧ x'.block ≠ b + 1 ∧ x'.block ≠ b + 2) := show _ from fun x' e => by
     have h1 := wh.apart HLA.out x' e
     have h2 := M6.out.r.lt k1 (Or.inl rfl)
     have h3 := M6.out.r.lt k2 (Or.inr (Or.inl rfl))
     have h4 := M6.out.lt
     have h5 := X6.out.s.hb
     have h6 := X6.out.lt
     refine ⟨?_, ?_, ?_, ?_⟩ <;> omega
    have HWH : Hid (Whence w.heap.size (K.ws ≠ []) a a') := show Whence _ _ _ _ from wh.mono X6.out.bl.size
    clear X6 M6 b8 s9 s10 la wh x0 x1 x2 x3 x4 x5 y10 PC
    generalize w8.heap.size = lq at *
    obtain ⟨cur, hcur, hsz, hset⟩ := M8.out.set1 (k := k) (by have := HL.out.2.2.2.2.2.2; have := HI.out; omega) (K', a', cap')
    have HS : Hid _ := hset
    have z10 : w10.cell? ⟨mm, 10, none⟩ = some (.slice (some ⟨k1, 0, none⟩) N d1) := (M8.out.o.cell 10).trans rfl
    clear hset
    go_upto_region 16 with (first
     | (refine wpList_load_bk rfl 100 (.tmp 16) rfl lq rfl _ S8.out.1 Tryz.underlying100 rfl (by kernel_rfl) ?_)
     | (refine wpList_store_part rfl 100 (.tmp 115) (.tmp 114) rfl k1 (k * 6) (zq2 (K'.r : Int) K'.ph K'.port K'.lane a' K'.ws.length cap' K'.cp) rfl rfl hcur (by kernel_rfl) hsz rfl ?_; intro w11 s11 o11))
    have X11 : Hid _ := X8.out.on o11 M8.out.lt.2.1
    have M11 : Hid _ := HS.out w11 s11 o11
    have LA11 : Hid (LaR w11 K' a' cap') := LA8.out.on o11 fun _ x' e => (HQ.out x' e).1
    have S11 : Hid (Bk w11 (lq + 1) (zq4 o9.port o9.lane (o9.word : Int) o9.copy o9.ends) 56 ∧ b + 2 < lq ∧ k2 < lq) := show _ ∧ _ ∧ _ from ⟨S8.out.2.1.on o11 (by have := S8.out.2.2.2.1; omega), S8.out.2.2.1, S8.out.2.2.2.2⟩
    clear X8 M8 LA8 S8 HS hcur hsz z10 s11 o11
    have e4 : w11.cell? ⟨lq + 1, 4, none⟩ = some (.bool o9.ends) := (S11.out.1.cell 4).trans rfl
    simp only [Act.put]
    obtain ⟨tt, htt⟩ : ∃ tt, (o9.ends && ((q : Int) != 0)) = tt := ⟨_, rfl⟩
    have HTT : Hid ((o9.ends && ((q : Int) != 0)) = tt) := htt
    clear htt
    go_cut [121] from 116 to 121 (fun x wc => x = .bool tt ∧ w11 = wc)
    case first =>
     by_cases a1 : o9.ends = true
     case neg =>
      have a2 : o9.ends = false := by simpa using a1
      have hw : Hid (false = tt) := show _ = _ from by rw [← HTT.out, a2]; rfl
      rw [a2] at e4
      clear a1 a2
      go_wp2_with fail
      go_meet
      exact ⟨by rw [← hw.out], rfl⟩
     rw [a1] at e4
     have hw : Hid (((q : Int) != 0) = tt) := show _ = _ from by rw [← HTT.out, a1]; rfl
     clear a1
     go_wp2_with fail
     go_meet
     exact ⟨by rw [← hw.out], rfl⟩
    obtain ⟨rfl, rfl⟩ := hcut
    go_upto_if 121 with fail
    try simp only [Act.put]
    go_cut [] from 122 to 132 (fun wc => ∃ own', own' = (if o9.ends = true ∧ ¬ (q : Int) = 0 then own.set (q * n + o9.lane.toNat) (-1) else own) ∧ S3 w wc b (zqP cw ch n cd cr ci cb we ca node g1 c1 g2 c2 g3 c3 g4 c4 N) zqZ (zq1 0 0 0 false false 0 0) ∧ N5 wc (b + 1) mm k1 k2 k3 k4 d1 d2 d3 d4 n (zqP cw ch n cd cr ci cb we ca node k1 d1 k2 d2 k3 d3 k4 d4 N) (lrow (L.set k (K', a', cap'))) (vi own') (frow n gv) (frow N (mv.set q nx)) ∧ LaR wc K' a' cap' ∧ Bk wc (lq + 1) (zq4 o9.port o9.lane (o9.word : Int) o9.copy o9.ends) 56)
    case first =>
     cases tt with
     | false =>
      have hw : Hid ((if o9.ends = true ∧ ¬ (q : Int) = 0 then own.set (q * n + o9.lane.toNat) (-1) else own) = own) := show _ = _ from if_neg fun h => by
       have h9 := HTT.out
       rw [h.1, bne_iff_ne.2 h.2] at h9
       cases h9
      go_wp2_with fail
      go_meet
      exact ⟨own, hw.out.symm, X11.out, M11.out, LA11.out, S11.out.1⟩
     | true =>
      have h9 := HTT.out
      simp only [Bool.and_eq_true, bne_iff_ne] at h9
      obtain ⟨a1, a3⟩ := h9
      obtain ⟨l9, hl9, hln9⟩ := HLN.out a3
      obtain ⟨z, hz⟩ : ∃ z, q * n + l9 = z := ⟨_, rfl⟩
      have hw : Hid ((if o9.ends = true ∧ ¬ (q : Int) = 0 then own.set (q * n + o9.lane.toNat) (-1) else own) = own.set z (-1)) := show _ = _ from by rw [if_pos ⟨a1, a3⟩, hl9, Int.toNat_natCast, hz]
      have hz5 : z < N := by
       have h3 := ix5 HL.out.2.1 hln9
       have h4 := HNN.out
       rw [hz] at h3
       omega
      obtain ⟨j1, j2⟩ := ix_walk HL.out.2.1 hln9 HL.out.2.2.2.2.1 hz
      have hz6 : (z : Int) < (N : Int) := by have := HNN.out; omega
      obtain ⟨⟨oy, hoy⟩, hof, hset⟩ := M11.out.set2 (k := z) (by have := HL.out.2.2.2.1; have := HNN.out; omega) (-1)
      have HS : Hid _ := hset
      have e1 : w11.cell? ⟨lq + 1, 1, none⟩ = some (.int .i64 (l9 : Int)) := (S11.out.1.cell 1).trans (by rw [← hl9]; rfl)
      have z11 : w11.cell? ⟨mm, 11, none⟩ = some (.slice (some ⟨k2, 0, none⟩) N d2) := (M11.out.o.cell 11).trans rfl
      clear hset hz hl9 a1 a3 hz5
      have y2 : w11.cell? ⟨b, 2, none⟩ = some (.int .i64 (n : Int)) := (X11.out.s.p.cell 2).trans rfl
      go_wp2_with fail
      go_meet
      exact ⟨_, hw.out.symm, X11.out.on ((On.refl k2 w11).set z _) M11.out.lt.2.2.1, HS.out, LA11.out.on ((On.refl k2 w11).set z _) (fun _ x' e => (HQ.out x' e).2.1), S11.out.1.on ((On.refl k2 w11).set z _) (by have := S11.out.2.2; omega)⟩
    case rest =>
     obtain ⟨own', hw', X12', M12', LA12', S12'⟩ := hcut
     have HW : Hid (own' = _) := hw'
     have X12 : Hid (S3 w wc.drew b (zqP cw ch n cd cr ci cb we ca node g1 c1 g2 c2 g3 c3 g4 c4 N) zqZ (zq1 0 0 0 false false 0 0)) := X12'.next (Below.refl _ _).drew
     have M12 : Hid (N5 wc.drew (b + 1) mm k1 k2 k3 k4 d1 d2 d3 d4 n (zqP cw ch n cd cr ci cb we ca node k1 d1 k2 d2 k3 d3 k4 d4 N) (lrow (L.set k (K', a', cap'))) (vi own') (frow n gv) (frow N (mv.set q nx))) := M12'.next (Below.refl _ _).drew
     have LA12 : Hid (LaR wc.drew K' a' cap') := LA12'.next (Below.refl _ _).drew
     have S12 : Hid (Bk wc.drew (lq + 1) (zq4 o9.port o9.lane (o9.word : Int) o9.copy o9.ends) 56) := S12'.next (Below.refl _ _).drew
     clear hw' X12' M12' LA12' S12' X11 M11 LA11 HLN e4
     have S12q : Hid (b + 2 < lq) := S11.out.2.1
     clear S11
     obtain ⟨kq, hkq⟩ : ∃ x : Nat, k / n = x := ⟨_, rfl⟩
     obtain ⟨kr, hkr⟩ : ∃ x : Nat, k % n = x := ⟨_, rfl⟩
     have ed : (k : Int) / (n : Int) = (kq : Int) := by rw [← hkq, Int.natCast_ediv]
     have em : (k : Int) % (n : Int) = (kr : Int) := by rw [← hkr, Int.natCast_emod]
     have em2 : (k : Int).tmod (n : Int) = (kr : Int) := by rw [Int.tmod_eq_emod_of_nonneg (Int.natCast_nonneg k)]; exact em
     have ed2 : (k : Int).tdiv (n : Int) = (kq : Int) := by rw [Int.tdiv_eq_ediv_of_nonneg (Int.natCast_nonneg k)]; exact ed
     have hwq : IntKind.i64.wrap (kq : Int) = (kq : Int) := by
      have h1 : kq ≤ k := hkq ▸ Nat.div_le_self _ _
      have h2 := HI.out
      have h3 := HL.out.1
      exact IntWalk.i64_in _ (by omega)
     have hwr : IntKind.i64.wrap (kr : Int) = (kr : Int) := by
      have h1 : kr ≤ k := hkr ▸ Nat.mod_le _ _
      have h2 := HI.out
      have h3 := HL.out.1
      exact IntWalk.i64_in _ (by omega)
     have f3 : ¬ n = 0 := by have := HL.out.2.2.2.2.2.1; omega
     have f4 : ¬ (n : Int) = 0 := by omega
     go_upto_region 18 with fail
     have T0 : Bk wc.drew mm (zqP cw ch n cd cr ci cb we ca node k1 d1 k2 d2 k3 d3 k4 d4 N) 34 ∧ Bk wc.drew (lq + 1) (zq4 o9.port o9.lane (o9.word : Int) o9.copy o9.ends) 56 ∧ wc.drew.cell? ⟨b, 2, none⟩ = some (.int .i64 (n : Int)) := ⟨M12.out.o, S12.out, (X12.out.s.p.cell 2).trans rfl⟩
     refine wp_region_G (fun V => Bk V mm (zqP cw ch n cd cr ci cb we ca node k1 d1 k2 d2 k3 d3 k4 d4 N) 34 ∧ Bk V (lq + 1) (zq4 o9.port o9.lane (o9.word : Int) o9.copy o9.ends) 56 ∧ V.cell? ⟨b, 2, none⟩ = some (.int .i64 (n : Int))) 14 (by kernel_rfl) ?_
     refine wpAnyG_tk [14] (some 133) (i := 0) rfl rfl (by kernel_rfl) (fun _ _ _ h => h) (yields_bk rfl 34 (.tmp 15) rfl mm rfl _ (fun V hSV => hSV.1) Tryz.underlying34 rfl (by kernel_rfl)) T0 ?r0
     try simp only [Act.put, sqa, sqz, sqs]
     refine wpAnyG_tk [14] (some 134) (i := 1) rfl rfl (by kernel_rfl) (fun _ _ _ h => h) (yields_bk rfl 56 (.tmp 17) rfl (lq + 1) rfl _ (fun V hSV => hSV.2.1) Tryz.underlying56 rfl (by kernel_rfl)) T0 ?r1
     try simp only [Act.put, sqa, sqz, sqs]
     refine wpAnyG_tk [14] (some 135) (i := 2) (v := ?v2) rfl rfl (by kernel_rfl) (fun _ _ _ h => h) (Or.inl ⟨by rfl, ?y2⟩) T0 ?r2
     case y2 => (intro V hSV; obtain ⟨s0, s1, s2⟩ := hSV; go_simp; try with_reducible rfl)
     try simp only [Act.put, sqa, sqz, sqs]
     refine wpAnyG_tk [14] (some 136) (i := 3) (v := ?v3) rfl rfl (by kernel_rfl) (fun _ _ _ h => h) (Or.inl ⟨by rfl, ?y3⟩) T0 ?r3
     case y3 => (intro V hSV; obtain ⟨s0, s1, s2⟩ := hSV; go_simp; try with_reducible rfl)
     try simp only [Act.put, sqa, sqz, sqs]
     refine wpAnyG_tk [14] (some 137) (i := 4) (v := ?v4) rfl rfl (by kernel_rfl) (fun _ _ _ h => h) (Or.inl ⟨by rfl, ?y4⟩) T0 ?r4
     case y4 => (intro V hSV; obtain ⟨s0, s1, s2⟩ := hSV; go_simp; try with_reducible rfl)
     try simp only [Act.put, sqa, sqz, sqs]
     refine wpAnyG_tk [14] (some 138) (i := 5) (v := ?v5) rfl rfl (by kernel_rfl) (fun _ _ _ h => h) (Or.inl ⟨by rfl, ?y5⟩) T0 ?r5
     case y5 => (intro V hSV; obtain ⟨s0, s1, s2⟩ := hSV; go_simp; try with_reducible rfl)
     try simp only [Act.put, sqa, sqz, sqs]
     refine wpAnyG_tk [14] (some 139) (i := 6) (v := ?v6) rfl rfl (by kernel_rfl) (fun _ _ _ h => h) (Or.inl ⟨by rfl, ?y6⟩) T0 ?r6
     case y6 => (intro V hSV; obtain ⟨s0, s1, s2⟩ := hSV; go_simp; try with_reducible rfl)
     try simp only [Act.put, sqa, sqz, sqs]
     refine wpAnyG_tk [14] (some 140) (i := 7) (v := ?v7) rfl rfl (by kernel_rfl) (fun _ _ _ h => h) (Or.inl ⟨by rfl, ?y7⟩) T0 ?r7
     case y7 => (intro V hSV; obtain ⟨s0, s1, s2⟩ := hSV; go_simp; try with_reducible rfl)
     try simp only [Act.put, sqa, sqz, sqs]
     refine wpAnyG_tk [14] (some 141) (i := 8) (v := ?v8) rfl rfl (by kernel_rfl) (fun _ _ _ h => h) (Or.inl ⟨by rfl, ?y8⟩) T0 ?r8
     case y8 => (intro V hSV; obtain ⟨s0, s1, s2⟩ := hSV; go_simp; try with_reducible rfl)
     try simp only [Act.put, sqa, sqz, sqs]
     refine wpAnyG_tk [14] (some 142) (i := 9) (v := ?v9) rfl rfl (by kernel_rfl) (fun _ _ _ h => h) (Or.inl ⟨by rfl, ?y9⟩) T0 ?r9
     case y9 => (intro V hSV; obtain ⟨s0, s1, s2⟩ := hSV; go_simp; try with_reducible rfl)
     try simp only [Act.put, sqa, sqz, sqs]
     refine wpAnyG_tk [14] (some 143) (i := 10) (v := ?v10) rfl rfl (by kernel_rfl) (fun _ _ _ h => h) (Or.inl ⟨by rfl, ?y10⟩) T0 ?r10
     case y10 => (intro V hSV; obtain ⟨s0, s1, s2⟩ := hSV; go_simp; try with_reducible rfl)
     try simp only [Act.put, sqa, sqz, sqs]
     refine wpAnyG_tk [14] (some 144) (i := 11) (v := ?v11) rfl rfl (by kernel_rfl) (fun _ _ _ h => h) (Or.inl ⟨by rfl, ?y11⟩) T0 ?r11
     case y11 => (intro V hSV; obtain ⟨s0, s1, s2⟩ := hSV; go_simp; try with_reducible rfl)
     try simp only [Act.put, sqa, sqz, sqs]
     refine wpAnyG_tk [14] (some 145) (i := 12) (v := ?v12) rfl rfl (by kernel_rfl) (fun _ _ _ h => h) (Or.inl ⟨by rfl, ?y12⟩) T0 ?r12
     case y12 => (intro V hSV; obtain ⟨s0, s1, s2⟩ := hSV; go_simp; try with_reducible rfl)
     try simp only [Act.put, sqa, sqz, sqs]
     generalize wc.drew = v12 at *
     refine wpAnyG_one (i := 13) (by kernel_rfl) rfl (fun K hK => ?_)
     refine step_store_bk rfl 34 (.tmp 6) (.tmp 133) rfl (b + 1) (zqP cw ch n cd cr ci cb we ca node k1 d1 k2 d2 k3 d3 k4 d4 N) rfl rfl X12.out.s.r (by kernel_rfl) rfl rfl ?_
     intro w13 sw13 ow13
     have X13 : Hid _ := X12.out.ret1 ow13 sw13
     have M13 : Hid (N5 w13 (b + 1) mm k1 k2 k3 k4 d1 d2 d3 d4 n (zqP cw ch n cd cr ci cb we ca node k1 d1 k2 d2 k3 d3 k4 d4 N) (lrow (L.set k (K', a', cap'))) (vi own') (frow n gv) (frow N (mv.set q nx))) := M12.out.low ow13 (by omega)
     have S13 : Hid (Bk w13 (lq + 1) (zq4 o9.port o9.lane (o9.word : Int) o9.copy o9.ends) 56) := S12.out.on ow13 (by have := S12q.out; omega)
     have L13 : Hid (LaR w13 K' a' cap') := LA12.out.on ow13 (fun _ x' e => (HQ.out x' e).2.2.1)
     have T13 : Bk w13 mm (zqP cw ch n cd cr ci cb we ca node k1 d1 k2 d2 k3 d3 k4 d4 N) 34 ∧ Bk w13 (lq + 1) (zq4 o9.port o9.lane (o9.word : Int) o9.copy o9.ends) 56 ∧ w13.cell? ⟨b, 2, none⟩ = some (.int .i64 (n : Int)) := ⟨M13.out.o, S13.out, (X13.out.s.p.cell 2).trans rfl⟩
     refine hK.out _ _ (Or.inr T13) ?_
     clear hK K
     try simp only [Act.put, sqa]
     refine wpAnyG_one (i := 14) (by kernel_rfl) rfl (fun K hK => ?_)
     refine step_store_bk rfl 58 (.tmp 7) (.tmp 145) rfl (b + 2) (zq1 o9.port o9.lane (o9.word : Int) o9.copy o9.ends (kq : Int) (kr : Int)) rfl rfl X13.out.o (by kernel_rfl) rfl rfl ?_
     intro w14 sw14 ow14
     refine hK.out _ _ (Or.inl (by kernel_rfl)) ?_
     clear hK K
     try simp only [Act.put]
     refine wpAnyG_one (i := 15) (by kernel_rfl) rfl (fun K hK => ?_)
     go_simp
     refine hK.out _ _ (Or.inl (by kernel_rfl)) ?_
     clear hK K
     try simp only [Act.put, sqa, sqz, sqs]
     refine wpAnyG_done (by kernel_rfl) ?_ _
     clear T0 T13
     go_wp2_with fail
     have X14 := X13.out.ret2 ow14 sw14
     have M14 := M13.out.low ow14 (by omega)
     have L14 := L13.out.on ow14 (fun _ x' e => (HQ.out x' e).2.2.2)
     have hlt := M14.lt
     have hbb := X14.s.hb
     refine bodyPost_ret (v := .tuple #[.agg (zqP cw ch n cd cr ci cb we ca node k1 d1 k2 d2 k3 d3 k4 d4 N), .agg (zq1 o9.port o9.lane (o9.word : Int) o9.copy o9.ends (kq : Int) (kr : Int)), .bool true]) (results_cct (P := Tryz.prog) Tryz.results23 _ _ (b + 1) (b + 2) 34 58 _ _ _ _ rfl X14.s.r Tryz.underlying34 rfl (by kernel_rfl) rfl X14.o Tryz.underlying58 rfl (by kernel_rfl)) rfl ⟨_, by first | rfl | rw [hkq, hkr], ?_, X14.bl⟩
     have hf := FIN.out w14 k1 k2 k3 k4 d1 d2 d3 d4 K' a' cap' own' gv (mv.set q nx) X14.bl M14.r ⟨by omega, by omega, by omega, by omega⟩ L14 (fun _ => HWH.out)
     rw [HW.out] at hf
     rw [HR.out]
     exact hf
  have hi6 : (i : Int) < (N : Int) := Int.ofNat_lt.2 hlt
  have HIN : Hid (i < N) := hlt
  have e3 := wrap_next hlt (Nat.le_trans HL.out.1 (by decide))
  obtain ⟨K, a, cap, ⟨x0, x1, x2, x3, x4, x5⟩, hWi, hln⟩ := WX.out wr X4.out.bl i hlt
  have HWI : Hid (W i = _) := hWi
  have HLN : Hid (K.ph = 2 → K.port = (q : Int) → ¬ (q : Int) = 0 → 0 ≤ K.lane) := show _ → _ → _ → _ from hln
  clear hlt him hWi hln
  have y10 : wr.cell? ⟨b, 10, none⟩ = some (.slice (some ⟨g1, 0, none⟩) N c1) := (X4.out.s.p.cell 10).trans rfl
  go_upto_block 1 with fail
  go_cut [10, 11] from 31 to 78 (fun x _ wc => x = .int .i64 (i : Int) ∧ S3 w wc b (zqP cw ch n cd cr ci cb we ca node g1 c1 g2 c2 g3 c3 g4 c4 N) zqZ (zq1 0 0 0 false false 0 0) ∧ Bk wc wb (trA W N (i + 1)) 4)
  case first =>
   go_upto_region 8 with (refine wpList_store_bk rfl 100 (.tmp 11) (.tmp 42) rfl wr.heap.size (zq2 (K.r : Int) K.ph K.port K.lane a K.ws.length cap K.cp) rfl rfl (Bk.new _ _ _) (by kernel_rfl) rfl rfl ?_; intro w5 s5 o5)
   have X5 : Hid _ := X4.out.next (below_new o5)
   have T5 : Hid (Bk w5 wb (trA W N i) 4) := T4.out.next (below_new o5)
   have F5 : Hid (Bk w5 wr.heap.size (zq2 (K.r : Int) K.ph K.port K.lane a K.ws.length cap K.cp) 100) := s5
   have hlw : Hid (wb < wr.heap.size) := T4.out.lt
   clear X4 T4 s5 o5 x0 x1 x2 x3 x4 x5 y10
   generalize wr.heap.size = lb at *
   have tb : w5.cell? ⟨wb, i, none⟩ = some (.bool (decide (i < i) && W i)) := (T5.out.cell i).trans (trA_at HIN.out)
   have tf := T5.out.free i
   have l1 : w5.cell? ⟨lb, 1, none⟩ = some (.int .i64 K.ph) := (F5.out.cell 1).trans rfl
   have l2 : w5.cell? ⟨lb, 2, none⟩ = some (.int .i64 K.port) := (F5.out.cell 2).trans rfl
   have l3 : w5.cell? ⟨lb, 3, none⟩ = some (.int .i64 K.lane) := (F5.out.cell 3).trans rfl
   have l4 : w5.cell? ⟨lb, 4, none⟩ = some (.slice a K.ws.length cap) := (F5.out.cell 4).trans rfl
   by_cases a1 : K.ph = 2
   case neg =>
    have hw : Hid (W i = false) := show _ = _ from by rw [HWI.out]; simp [a1]
    have hb : (K.ph == 2) = false := by simp [a1]
    clear a1
    go_wp2_with fail
    go_meet
    have T6 := T5.out.set i (.bool (W i))
    rw [trA_step HIN.out, hw.out] at T6
    exact ⟨rfl, X5.out.on ((On.refl wb _).set i _) HB1.out, T6⟩
   rw [a1] at l1
   by_cases a2 : K.port = (q : Int)
   case neg =>
    have hw : Hid (W i = false) := show _ = _ from by rw [HWI.out]; simp [a1, a2]
    have hb : (K.port == (q : Int)) = false := by simp [a2]
    clear a1 a2
    go_wp2_with fail
    go_meet
    have T6 := T5.out.set i (.bool (W i))
    rw [trA_step HIN.out, hw.out] at T6
    exact ⟨rfl, X5.out.on ((On.refl wb _).set i _) HB1.out, T6⟩
   rw [a2] at l2
   by_cases a3 : K.ws = []
   case pos =>
    have hw : Hid (W i = false) := show _ = _ from by rw [HWI.out]; simp [a1, a2, a3]
    rw [a3, List.length_nil] at l4
    clear a1 a2 a3
    go_wp2_with fail
    go_meet
    have T6 := T5.out.set i (.bool (W i))
    rw [trA_step HIN.out, hw.out] at T6
    exact ⟨rfl, X5.out.on ((On.refl wb _).set i _) HB1.out, T6⟩
   have hp : 0 < K.ws.length := List.length_pos_iff.2 a3
   have hp2 : (0 : Int) < (K.ws.length : Int) := Int.natCast_pos.2 hp
   by_cases a4 : (q : Int) = 0
   case pos =>
    have hw : Hid (W i = true) := show _ = _ from by rw [HWI.out, decide_eq_true a1, decide_eq_true a2, decide_eq_true (show K.ws ≠ [] from a3), decide_eq_true a4]; rfl
    have hb : ((q : Int) == 0) = true := beq_iff_eq.2 a4
    clear a1 a2 a3 a4
    go_wp2_with fail
    go_meet
    have T6 := T5.out.set i (.bool (W i))
    rw [trA_step HIN.out, hw.out] at T6
    exact ⟨rfl, X5.out.on ((On.refl wb _).set i _) HB1.out, T6⟩
   have hb4 : ((q : Int) == 0) = false := beq_eq_false_iff_ne.2 a4
   obtain ⟨l9, hl9⟩ : ∃ l9 : Nat, K.lane = (l9 : Int) := ⟨K.lane.toNat, by have := HLN.out a1 a2 a4; omega⟩
   rw [hl9] at l3
   have hw0 : W i = (decide ((l9 : Int) < (Lm.length : Int)) && R12.wl Lm l9) := by rw [HWI.out, hl9, mayB_at, decide_eq_true a1, decide_eq_true a2, decide_eq_true (show K.ws ≠ [] from a3), decide_eq_false a4]; rfl
   by_cases a5 : (l9 : Int) < (Lm.length : Int)
   case neg =>
    have hw : Hid (W i = false) := show _ = _ from by rw [hw0, decide_eq_false a5]; rfl
    clear a1 a2 a3 a4 hw0 hl9
    go_wp2_with fail
    go_meet
    have T6 := T5.out.set i (.bool (W i))
    rw [trA_step HIN.out, hw.out] at T6
    exact ⟨rfl, X5.out.on ((On.refl wb _).set i _) HB1.out, T6⟩
   obtain ⟨ga, oa, rfl, hma⟩ := MX.out w5 X5.out.bl l9 (by omega)
   have hw : Hid (W i = R12.wl Lm l9) := show _ = _ from by rw [hw0, decide_eq_true a5]; rfl
   generalize R12.wl Lm l9 = mb at *
   clear a1 a2 a3 a4 hw0 hl9
   go_wp2_with fail
   go_meet
   have T6 := T5.out.set i (.bool (W i))
   rw [trA_step HIN.out, hw.out] at T6
   exact ⟨rfl, X5.out.on ((On.refl wb _).set i _) HB1.out, T6⟩
  case rest =>
   obtain ⟨rfl, X6, T6⟩ := hcut
   go_wp2
   go_roundw
   case rel =>
    exact ⟨i + 1, HIN.out, by go_num, X6, T6⟩
   case measure =>
    have := HIN.out
    simp [RowKit.intOf]
    omega
end Go.Proofs.YtmmegmonmilkcaaGreatDoor
