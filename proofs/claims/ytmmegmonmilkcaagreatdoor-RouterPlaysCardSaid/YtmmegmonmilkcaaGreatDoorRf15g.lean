/-
 The document's router, by value: Give. (Written by gen_rf15g.py.)
-/
import Derived.Test.YtmmegmonmilkcaaGreatDoorRfA
namespace Go.Proofs.YtmmegmonmilkcaaGreatDoor
open Go.RowKit
set_option maxRecDepth 100000 in
set_option maxHeartbeats 8000000 in
theorem rgive15 {w : World} {c : G.Cf} {S : RS} {v : Value} {D : Nat → Prop} (h : DR w c S v D) (ok : ROk S) (hn : (S.n : Int) = c.l) (hck : G.chk c = 0) (p l : Int) :
  Calls Tryz.prog 21 #[v, .int .i64 p, .int .i64 l] w fun e w' => ∃ v', e = .returned (.tuple #[v', .bool (giveRt (clsR c) S p l).2]) ∧ DR w' c (giveRt (clsR c) S p l).1 v' (fun g => D g ∨ w.heap.size ≤ g) ∧ Below w.heap.size w w' := by
 obtain ⟨L, g1, g2, g3, g4, c1, c2, c3, c4, rfl, eL, r, dd, xx⟩ := h
 have DR0 : Hid (∀ u, Below w.heap.size w u → DR u c S (rrv c S.node (.slice (some ⟨g1, 0, none⟩) (5 * S.n) c1) (.slice (some ⟨g2, 0, none⟩) (5 * S.n) c2) (.slice (some ⟨g3, 0, none⟩) 5 c3) (.slice (some ⟨g4, 0, none⟩) 5 c4)) (fun g => D g ∨ w.heap.size ≤ g)) := show _ from fun u hu => (DR.next (show DR w c S _ D from ⟨L, g1, g2, g3, g4, c1, c2, c3, c4, rfl, eL, r, dd, xx⟩) hu).mono fun g _ hg => Or.inl hg
 have IC := fun u => ris15 c S.node (.slice (some ⟨g1, 0, none⟩) (5 * S.n) c1) (.slice (some ⟨g2, 0, none⟩) (5 * S.n) c2) (.slice (some ⟨g3, 0, none⟩) 5 c3) (.slice (some ⟨g4, 0, none⟩) 5 c4) p l u
 rw [show (decide (0 ≤ p ∧ p < 5 ∧ 0 ≤ l ∧ l < c.l)) = inRt S p l by unfold inRt; rw [hn]] at IC
 by_cases hin : inRt S p l = true
 case neg =>
  have e1 : giveRt (clsR c) S p l = (S, false) := by unfold giveRt; rw [if_neg hin]
  rw [e1]
  rw [show inRt S p l = false by simpa using hin] at IC
  clear hin e1 xx r eL dd ok hck
  generalize S.n = n at *
  generalize S.node = node at *
  obtain ⟨cw, ch, cl, cd, cr, ci, cb, we, ca⟩ := c
  simp only [rrv, rrc] at *
  subst hn
  have X0 : Hid (S2 w ((w.alloc (.cells (zqP cw ch n cd cr ci cb we ca node g1 c1 g2 c2 g3 c3 g4 c4 (5 * n)) 34)).alloc (.cells zqZ 34)) w.heap.size (zqP cw ch n cd cr ci cb we ca node g1 c1 g2 c2 g3 c3 g4 c4 (5 * n)) zqZ) := S2.start w _ _
  go_enter Tryz.func21, Tryz.ntmps21
  go_upto_region 1 with fail
  generalize ((w.alloc (.cells (zqP cw ch n cd cr ci cb we ca node g1 c1 g2 c2 g3 c3 g4 c4 (5 * n)) 34)).alloc (.cells zqZ 34)) = v0 at *
  obtain ⟨b, hb⟩ : ∃ b, w.heap.size = b := ⟨_, rfl⟩
  rw [hb] at X0 ⊢
  clear hb
  go_upto_region 2 with (first
   | (refine wpList_load_bk rfl 34 (.tmp 3) rfl b rfl _ X0.out.p Tryz.underlying34 rfl (by kernel_rfl) ?_)
   | (go_at_call 43; with_reducible refine (IC _).mono ?_; rintro e w1 ⟨rfl, b1⟩))
  have X1 : Hid _ := X0.out.next b1
  clear X0 b1 IC
  go_wp2_with (first
   | (refine wpList_load_bk rfl 34 (.tmp 3) rfl b rfl _ X1.out.p Tryz.underlying34 rfl (by kernel_rfl) ?_)
   | (refine wpList_store_bk rfl 34 (.tmp 6) (.tmp 25) rfl (b + 1) (zqP cw ch n cd cr ci cb we ca node g1 c1 g2 c2 g3 c3 g4 c4 (5 * n)) rfl rfl X1.out.r (by kernel_rfl) rfl rfl ?_; intro wF qF oF))
  have XF := X1.out.ret oF qF
  exact bodyPost_ret (v := .tuple #[.agg (zqP cw ch n cd cr ci cb we ca node g1 c1 g2 c2 g3 c3 g4 c4 (5 * n)), .bool false]) (results_ct (P := Tryz.prog) Tryz.results21 _ _ (b + 1) 34 _ _ rfl qF Tryz.underlying34 rfl (by kernel_rfl)) rfl ⟨_, rfl, DR0.out _ XF.bl, XF.bl⟩
 obtain ⟨Pn, Ln, rfl, rfl, hP, hLn, hix⟩ := in_nat hin
 obtain ⟨k, hk⟩ : ∃ k, ixRt S (Pn : Int) (Ln : Int) = k := ⟨_, rfl⟩
 have hk5 : k < 5 * S.n := hk ▸ ix_lt hin
 rw [hin] at IC
 rw [hk] at hix
 obtain ⟨⟨K, a, cap⟩, hx0, hK, hxm, hkL⟩ := lw_at eL ok.il hk5
 simp only at hK
 have okK : KOk K := by rw [hK]; exact ok.ik _ (ins_mem ok hk5)
 have hip := ok.ip k hk5
 rw [← hK] at hip
 have LAK : LaR w K a cap := (xx _ hxm).1
 have CC : Hid (∀ u, Below w.heap.size w u → Calls Tryz.prog 44 #[rrv c S.node (.slice (some ⟨g1, 0, none⟩) (5 * S.n) c1) (.slice (some ⟨g2, 0, none⟩) (5 * S.n) c2) (.slice (some ⟨g3, 0, none⟩) 5 c3) (.slice (some ⟨g4, 0, none⟩) 5 c4)] u fun e w' => ∃ k1 k2 k3 k4 d1 d2 d3 d4, e = .returned (rrv c S.node (.slice (some ⟨k1, 0, none⟩) (5 * S.n) d1) (.slice (some ⟨k2, 0, none⟩) (5 * S.n) d2) (.slice (some ⟨k3, 0, none⟩) 5 d3) (.slice (some ⟨k4, 0, none⟩) 5 d4)) ∧ R4 w' k1 k2 k3 k4 d1 d2 d3 d4 S.n (lrow L) (vi S.own) (frow S.n S.gv) (frow (5 * S.n) S.mv) ∧ (u.heap.size ≤ k1 ∧ u.heap.size ≤ k2 ∧ u.heap.size ≤ k3 ∧ u.heap.size ≤ k4) ∧ Below u.heap.size u w') := show _ from fun u hu => rclone15 (X1 := lrow L) (X2 := vi S.own) (X3 := frow S.n S.gv) (X4 := frow (5 * S.n) S.mv) c S.node (R4.next r hu) ok.n1 ok.n8 (lrow_one L) (vi_one15 S.own) (frow_one S.n S.gv) (frow_one (5 * S.n) S.mv)
 have SX : Hid (∀ u, Below w.heap.size w u → u.cell? ⟨g1, k * 6, none⟩ = some (.int .i64 (K.r : Int)) ∧ u.cell? ⟨g1, k * 6 + 1, none⟩ = some (.int .i64 K.ph) ∧ u.cell? ⟨g1, k * 6 + 2, none⟩ = some (.int .i64 K.port) ∧ u.cell? ⟨g1, k * 6 + 3, none⟩ = some (.int .i64 K.lane) ∧ u.cell? ⟨g1, k * 6 + 4, none⟩ = some (.slice a K.ws.length cap) ∧ u.cell? ⟨g1, k * 6 + 5, none⟩ = some (.bool K.cp)) := show _ from fun u hu => lw_six (r.next hu).a1 hx0 hk5
 have FIN : Hid (∀ (u : World) k1 k2 k3 k4 d1 d2 d3 d4 (K' : KS) (a' : Option Addr) (cap' : Nat) (own' : List Int) (gv' mv' : List Nat), Below w.heap.size w u → R4 u k1 k2 k3 k4 d1 d2 d3 d4 S.n (lrow (L.set k (K', a', cap'))) (vi own') (frow S.n gv') (frow (5 * S.n) mv') → (w.heap.size ≤ k1 ∧ w.heap.size ≤ k2 ∧ w.heap.size ≤ k3 ∧ w.heap.size ≤ k4) → LaR u K' a' cap' → (K'.ws ≠ [] → Whence w.heap.size (K.ws ≠ []) a a') → DR u c ⟨S.n, S.node, S.ins.set k K', own', gv', mv'⟩ (rrv c S.node (.slice (some ⟨k1, 0, none⟩) (5 * S.n) d1) (.slice (some ⟨k2, 0, none⟩) (5 * S.n) d2) (.slice (some ⟨k3, 0, none⟩) 5 d3) (.slice (some ⟨k4, 0, none⟩) 5 d4)) (fun g => D g ∨ w.heap.size ≤ g)) := show _ from fun u k1 k2 k3 k4 d1 d2 d3 d4 K' a' cap' own' gv' mv' hu r4 hk la wh => by
  refine ⟨L.set k (K', a', cap'), k1, k2, k3, k4, d1, d2, d3, d4, rfl, by rw [List.map_set, eL], r4, ⟨Or.inr hk.1, Or.inr hk.2.1, Or.inr hk.2.2.1, Or.inr hk.2.2.2⟩, fun y hy => ?_⟩
  rcases List.mem_or_eq_of_mem_set hy with hy | rfl
  ·exact ⟨(xx y hy).1.next hu, fun h1 q hq => Or.inl ((xx y hy).2 h1 q hq)⟩
  ·refine ⟨la, fun h1 q hq => ?_⟩
   rcases wh h1 q hq with ⟨h2, z, hz, e9⟩ | h3
   ·exact Or.inl (e9 ▸ (xx _ hxm).2 h2 z hz)
   ·exact Or.inr h3
 have hi5 := ix_int hP hLn ok.n8
 rw [← hix] at hi5
 have J5 : Hid (wrap64 ((Pn : Int) * (S.n : Int)) = ((Pn * S.n : Nat) : Int) ∧ wrap64 (((Pn * S.n : Nat) : Int) + (Ln : Int)) = (k : Int)) := show _ ∧ _ from hi5
 have hkn : (k : Int) < ((5 * S.n : Nat) : Int) := Int.ofNat_lt.2 hk5
 clear hi5
 by_cases hph : K.ph = 1
 case neg =>
  have e1 : giveRt (clsR c) S (Pn : Int) (Ln : Int) = (S, false) := by unfold giveRt; rw [if_pos hin, hk, ← hK, if_neg hph]
  rw [e1]
  clear hin hk e1 hxm xx eL r okK hK hx0 ok hk5 hkL hix LAK hck hip CC FIN
  generalize S.own = own at *
  generalize S.gv = gv at *
  generalize S.mv = mv at *
  generalize S.ins = ins at *
  generalize S.node = node at *
  generalize S.n = n at *
  obtain ⟨cw, ch, cl, cd, cr, ci, cb, we, ca⟩ := c
  simp only [rrv, rrc] at *
  subst hn
  have X0 : Hid (S2 w ((w.alloc (.cells (zqP cw ch n cd cr ci cb we ca node g1 c1 g2 c2 g3 c3 g4 c4 (5 * n)) 34)).alloc (.cells zqZ 34)) w.heap.size (zqP cw ch n cd cr ci cb we ca node g1 c1 g2 c2 g3 c3 g4 c4 (5 * n)) zqZ) := S2.start w _ _
  go_enter Tryz.func21, Tryz.ntmps21
  go_upto_region 1 with fail
  generalize ((w.alloc (.cells (zqP cw ch n cd cr ci cb we ca node g1 c1 g2 c2 g3 c3 g4 c4 (5 * n)) 34)).alloc (.cells zqZ 34)) = v0 at *
  obtain ⟨b, hb⟩ : ∃ b, w.heap.size = b := ⟨_, rfl⟩
  rw [hb] at X0 ⊢
  clear hb
  go_upto_region 3 with (first
   | (refine wpList_load_bk rfl 34 (.tmp 3) rfl b rfl _ X0.out.p Tryz.underlying34 rfl (by kernel_rfl) ?_)
   | (go_at_call 43; with_reducible refine (IC _).mono ?_; rintro e w1 ⟨rfl, b1⟩))
  have X1 : Hid _ := X0.out.next b1
  clear X0 b1 IC
  have y2 : w1.cell? ⟨b, 2, none⟩ = some (.int .i64 (n : Int)) := (X1.out.p.cell 2).trans rfl
  have y10 : w1.cell? ⟨b, 10, none⟩ = some (.slice (some ⟨g1, 0, none⟩) (5 * n) c1) := (X1.out.p.cell 10).trans rfl
  go_upto_region 4 with fail
  rw [J5.out.1, J5.out.2]
  obtain ⟨x0, x1, x2, x3, x4, x5⟩ := SX.out _ X1.out.bl
  go_upto_region 5 with fail
  clear x0 x1 x2 x3 x4 x5 y2 y10 SX
  go_wp2_with (first
   | (refine wpList_load_bk rfl 34 (.tmp 3) rfl b rfl _ X1.out.p Tryz.underlying34 rfl (by kernel_rfl) ?_)
   | (refine wpList_store_bk rfl 34 (.tmp 6) (.tmp 40) rfl (b + 1) (zqP cw ch n cd cr ci cb we ca node g1 c1 g2 c2 g3 c3 g4 c4 (5 * n)) rfl rfl X1.out.r (by kernel_rfl) rfl rfl ?_; intro wF qF oF))
  have XF := X1.out.ret oF qF
  exact bodyPost_ret (v := .tuple #[.agg (zqP cw ch n cd cr ci cb we ca node g1 c1 g2 c2 g3 c3 g4 c4 (5 * n)), .bool false]) (results_ct (P := Tryz.prog) Tryz.results21 _ _ (b + 1) 34 _ _ rfl qF Tryz.underlying34 rfl (by kernel_rfl)) rfl ⟨_, rfl, DR0.out _ XF.bl, XF.bl⟩
 obtain ⟨q, hq⟩ : ∃ q : Nat, K.port = (q : Int) := ⟨K.port.toNat, by omega⟩
 have hq5 : q < 5 := by omega
 obtain ⟨f, m, hfm, hcl, hcls⟩ := cls_ways hck hn ok.n1 Ln
 have e1 : giveRt (clsR c) S (Pn : Int) (Ln : Int) = if (ask S.n (S.gv.getD q 0) (freeRt S q f m)).2 = true then
   ({ S with
      gv := S.gv.set q (nxtl S.n (S.gv.getD q 0) (freeRt S q f m)),
      own := S.own.set (q * S.n + (ask S.n (S.gv.getD q 0) (freeRt S q f m)).1) (k : Int),
      ins := S.ins.set k (giveK K ((ask S.n (S.gv.getD q 0) (freeRt S q f m)).1 : Int)).1 }, true) else (S, false) := by
  unfold giveRt
  rw [if_pos hin, hk, ← hK, if_pos hph, Int.toNat_natCast, hcls, hq, Int.toNat_natCast]
 rw [e1]
 have hn0 : 0 < S.n := ok.n1
 have HW : Hid ((∀ i, f ≤ i → i < f + m → freeRt S q f m i = decide (S.own.getD (q * S.n + i) 0 < 0)) ∧ (∀ j, j < f → freeRt S q f m j = false) ∧ ∀ j, f + m ≤ j → freeRt S q f m j = false) := show _ ∧ _ ∧ _ from by
  unfold freeRt
  refine ⟨fun i h1 h2 => ?_, fun j h1 => ?_, fun j h1 => ?_⟩
  ·rw [decide_eq_true (And.intro h1 h2)]; rfl
  ·rw [decide_eq_false (show ¬ (f ≤ j ∧ j < f + m) by omega)]; rfl
  ·rw [decide_eq_false (show ¬ (f ≤ j ∧ j < f + m) by omega)]; rfl
 have NX : Hid (∀ (u : World) (g : Nat) (cc : Nat), Bk u g (trA (freeRt S q f m) S.n S.n) 4 → Calls Tryz.prog 57 #[.agg #[.int .i64 (S.n : Int), .int .i64 ((S.gv.getD q 0 : Nat) - 1 : Int)], .slice (some ⟨g, 0, none⟩) S.n cc] u fun e w' => e = .returned (.tuple #[.agg #[.int .i64 (S.n : Int), .int .i64 ((nxtl S.n (S.gv.getD q 0) (freeRt S q f m) : Nat) - 1 : Int)], .int .i64 ((ask S.n (S.gv.getD q 0) (freeRt S q f m)).1 : Int), .bool (ask S.n (S.gv.getD q 0) (freeRt S q f m)).2]) ∧ Below u.heap.size u w') := show _ from fun u g cc hu => by
  have h9 := R12.rnext_any S.n (S.gv.getD q 0) hn0 (by have := ok.n8; omega) (ok.gt q hq5) (some ⟨g, 0, none⟩) ((List.range S.n).map (freeRt S q f m)) cc u (tr_rd hu)
  rw [List.length_map, List.length_range, ask_ext hn0 (fun k hk => wl_map hk), nxtl_congr (fun k hk => wl_map hk)] at h9
  exact h9
 have HI : Hid ((ask S.n (S.gv.getD q 0) (freeRt S q f m)).1 < S.n) := show _ < _ from ask_lt hn0
 have CLC : Hid (∀ u, Calls Tryz.prog 56 #[G.cfv c, .bool (c.ca && decide ((Ln : Int) = c.l - 1))] u fun e w' => e = .returned (.tuple #[.int .i64 (f : Int), .int .i64 (m : Int)]) ∧ Below u.heap.size u w') := show _ from fun u => by
  have h9 := G.rclass_any c (c.ca && decide ((Ln : Int) = c.l - 1)) u
  rw [hcl] at h9
  exact h9
 have OX : Hid (∀ u, Below w.heap.size w u → ∀ z, z < 5 * S.n → u.cell? ⟨g2, z, none⟩ = some (.int .i64 (S.own.getD z 0))) := show _ from fun u hu z hz => ow_cell (r.next hu).a2 hz
 have TX : Hid (∀ u, Below w.heap.size w u → u.cell? ⟨g3, q * 2, none⟩ = some (.int .i64 (S.n : Int)) ∧ u.cell? ⟨g3, q * 2 + 1, none⟩ = some (.int .i64 ((S.gv.getD q 0 : Nat) - 1 : Int))) := show _ from fun u hu => tn_cell (r.next hu).a3 hq5
 have HL : Hid (k < L.length ∧ q < S.gv.length ∧ S.own.length = 5 * S.n ∧ S.n ≤ 8 ∧ q < 5 ∧ f + m ≤ S.n) := show _ ∧ _ ∧ _ ∧ _ ∧ _ ∧ _ from ⟨hkL, by rw [ok.gl]; exact hq5, ok.ol, ok.n8, hq5, hfm⟩
 have HPH : Hid (K.ph = 1 ∧ K.port = (q : Int)) := show _ ∧ _ from ⟨hph, hq⟩
 obtain ⟨kk, hkk⟩ : ∃ kk, (c.ca && decide ((Ln : Int) = c.l - 1)) = kk := ⟨_, rfl⟩
 rw [hkk] at CLC
 have HKK : Hid ((c.ca && decide ((Ln : Int) = c.l - 1)) = kk) := hkk
 clear hkk
 generalize freeRt S q f m = W at *
 generalize nxtl S.n (S.gv.getD q 0) W = nx at *
 generalize S.gv.getD q 0 = gl at *
 obtain ⟨AK, hAK⟩ : ∃ AK, ask S.n gl W = AK := ⟨_, rfl⟩
 rw [hAK] at NX HI ⊢
 obtain ⟨i9, is⟩ := AK
 simp only at NX HI
 have GC : Hid (∀ u, Calls Tryz.prog 58 #[lav K a cap, .int .i64 (i9 : Int)] u fun e w' => e = .returned (.tuple #[lav (giveK K (i9 : Int)).1 a cap, .bool (giveK K (i9 : Int)).2]) ∧ Below u.heap.size u w') := show _ from fun u => rgive14 K (i9 : Int) a cap u
 obtain ⟨GK, hGK⟩ : ∃ GK, giveK K (i9 : Int) = GK := ⟨_, rfl⟩
 rw [hGK] at GC ⊢
 obtain ⟨K', bz⟩ := GK
 simp only at GC
 have HWS : Hid (K'.ws = K.ws) := show _ = _ from by
  unfold giveK at hGK
  rw [if_pos hph] at hGK
  cases hGK
  rfl
 have HRD : Hid (∀ u, Below w.heap.size w u → LaR u K' a cap) := show _ from fun u hu => by
  have h9 := LAK.next hu
  exact ⟨by rw [HWS.out]; exact h9.rd, by rw [HWS.out]; exact h9.nil, by rw [HWS.out]; exact h9.le, h9.mx⟩
 have HWH : Hid (K'.ws ≠ [] → Whence w.heap.size (K.ws ≠ []) a a) := show _ from fun h9 => Whence.same _ (by rw [← HWS.out]; exact h9) _
 clear hGK hAK hin hk e1 hxm xx eL r okK hK hx0 ok hk5 hkL hix LAK hck hip hph hq hq5 hcl hcls hn0 hfm
 generalize S.own = own at *
 generalize S.gv = gv at *
 generalize S.mv = mv at *
 generalize S.ins = ins at *
 generalize S.node = node at *
 generalize S.n = n at *
 obtain ⟨cw, ch, cl, cd, cr, ci, cb, we, ca⟩ := c
 simp only [rrv, rrc, lav, lac, G.cfv, G.cfc] at *
 subst hn
 have X0 : Hid (S2 w ((w.alloc (.cells (zqP cw ch n cd cr ci cb we ca node g1 c1 g2 c2 g3 c3 g4 c4 (5 * n)) 34)).alloc (.cells zqZ 34)) w.heap.size (zqP cw ch n cd cr ci cb we ca node g1 c1 g2 c2 g3 c3 g4 c4 (5 * n)) zqZ) := S2.start w _ _
 go_enter Tryz.func21, Tryz.ntmps21
 go_upto_region 1 with fail
 generalize ((w.alloc (.cells (zqP cw ch n cd cr ci cb we ca node g1 c1 g2 c2 g3 c3 g4 c4 (5 * n)) 34)).alloc (.cells zqZ 34)) = v0 at *
 obtain ⟨b, hb⟩ : ∃ b, w.heap.size = b := ⟨_, rfl⟩
 rw [hb] at X0 ⊢
 clear hb
 go_upto_region 3 with (first
  | (refine wpList_load_bk rfl 34 (.tmp 3) rfl b rfl _ X0.out.p Tryz.underlying34 rfl (by kernel_rfl) ?_)
  | (go_at_call 43; with_reducible refine (IC _).mono ?_; rintro e w1 ⟨rfl, b1⟩))
 have X1 : Hid _ := X0.out.next b1
 clear X0 b1 IC
 have y2 : w1.cell? ⟨b, 2, none⟩ = some (.int .i64 (n : Int)) := (X1.out.p.cell 2).trans rfl
 have y10 : w1.cell? ⟨b, 10, none⟩ = some (.slice (some ⟨g1, 0, none⟩) (5 * n) c1) := (X1.out.p.cell 10).trans rfl
 go_upto_region 4 with fail
 rw [J5.out.1, J5.out.2]
 obtain ⟨x0, x1, x2, x3, x4, x5⟩ := SX.out _ X1.out.bl
 rw [HPH.out.1] at x1
 go_upto_region 7 with fail
 rw [HPH.out.2]
 clear x0 x1 x2 x3 x4 x5 y2 y10 J5
 go_cut [10, 11] from 10 to 63 (fun x y wc => x = .int .i64 (f : Int) ∧ y = .int .i64 (m : Int) ∧ Below w1.heap.size w1 wc)
 case first =>
  have y0 : w1.cell? ⟨b, 0, none⟩ = some (.int .i64 cw) := (X1.out.p.cell 0).trans rfl
  have y1 : w1.cell? ⟨b, 1, none⟩ = some (.int .i64 ch) := (X1.out.p.cell 1).trans rfl
  have y2 : w1.cell? ⟨b, 2, none⟩ = some (.int .i64 (n : Int)) := (X1.out.p.cell 2).trans rfl
  have y3 : w1.cell? ⟨b, 3, none⟩ = some (.int .i64 cd) := (X1.out.p.cell 3).trans rfl
  have y4 : w1.cell? ⟨b, 4, none⟩ = some (.int .i64 cr) := (X1.out.p.cell 4).trans rfl
  have y5 : w1.cell? ⟨b, 5, none⟩ = some (.int .i64 ci) := (X1.out.p.cell 5).trans rfl
  have y6 : w1.cell? ⟨b, 6, none⟩ = some (.int .i64 cb) := (X1.out.p.cell 6).trans rfl
  have y7 : w1.cell? ⟨b, 7, none⟩ = some (.bool we) := (X1.out.p.cell 7).trans rfl
  have y8 : w1.cell? ⟨b, 8, none⟩ = some (.bool ca) := (X1.out.p.cell 8).trans rfl
  have e9 : IntKind.i64.wrap ((n : Int) - 1) = (n : Int) - 1 := wrap_less HL.out.2.2.2.1
  have hkz := HKK.out
  cases ca
  ·obtain rfl : kk = false := by simpa using hkz.symm
   clear hkz
   go_wp2_with (go_at_call 56; with_reducible refine (CLC.out _).mono ?_; rintro e w2 ⟨rfl, b2⟩)
   go_meet
   exact ⟨rfl, rfl, b2⟩
  ·have hl : ((Ln : Int) == (n : Int) - 1) = kk := by
    rw [← hkz]
    by_cases h9 : (Ln : Int) = (n : Int) - 1 <;> simp [h9]
   subst hl
   clear hkz
   go_wp2_with (go_at_call 56; with_reducible refine (CLC.out _).mono ?_; rintro e w2 ⟨rfl, b2⟩)
   go_meet
   exact ⟨rfl, rfl, b2⟩
 case rest =>
  obtain ⟨rfl, rfl, bc⟩ := hcut
  have X2 : Hid _ := X1.out.next bc
  clear X1 bc CLC HKK
  obtain ⟨i0, ki, hz0, hz1, hz2⟩ := info_parts (P := Tryz.prog) (e := 4) (z := .bool false) (size := 1) (bytes := 1) (by kernel_rfl)
  have hmk : ∀ v : World, (Instr.makeSlice 40 (.int .i64 (n : Int)) (.int .i64 (n : Int))).run Tryz.prog v = .ok (.slice (some ⟨v.heap.size, 0, none⟩) n n) (v.alloc (.cells (trA W n 0) 4)) := fun v => by
   have h8 := HL.out.2.2.2.1
   have := run_make (P := Tryz.prog) v 40 4 i0 (.bool false) Tryz.underlying40 ki hz0 .i64 .i64 (n : Int) (n : Int) (by omega) (Int.le_refl _) (by rw [hz2]; omega) (by omega)
   rw [hz1, Int.toNat_natCast] at this
   rw [← trA_made]
   exact this
  have y2 : wc.cell? ⟨b, 2, none⟩ = some (.int .i64 (n : Int)) := (X2.out.p.cell 2).trans rfl
  go_upto_region 9 with fail
  have X3 : Hid (S2 w (wc.alloc (.cells (trA W n 0) 4)) b (zqP cw ch n cd cr ci cb we ca node g1 c1 g2 c2 g3 c3 g4 c4 (5 * n)) zqZ) := X2.out.next ((Below.refl _ _).alloc (Nat.le_refl _) _)
  have T3 : Hid (Bk (wc.alloc (.cells (trA W n 0) 4)) wc.heap.size (trA W n f) 4) := show Bk _ _ _ _ from by
   rw [← trA_skip HW.out.2.1]; exact Bk.new _ _ _
  have HB1 : Hid (b + 1 < wc.heap.size) := X2.out.lt
  clear X2 hmk y2 i0 ki hz0 hz1 hz2
  generalize wc.alloc (.cells (trA W n 0) 4) = v3 at *
  generalize wc.heap.size = wb at *
  go_wp2_with fail
  go_loopw [13] (fun x wr => ∃ i : Nat, f ≤ i ∧ i ≤ f + m ∧ x = .int .i64 (i : Int) ∧ S2 w wr b (zqP cw ch n cd cr ci cb we ca node g1 c1 g2 c2 g3 c3 g4 c4 (5 * n)) zqZ ∧ Bk wr wb (trA W n i) 4) (fun x _ => f + m - (RowKit.intOf x).toNat)
  case atStart => exact ⟨f, Nat.le_refl _, Nat.le_add_right _ _, rfl, X3.out, T3.out⟩
  case round =>
   clear X3 T3
   obtain ⟨i, hfi, him, rfl, X4', T4'⟩ := hrel
   have X4 : Hid _ := X4'
   have T4 : Hid (Bk wr wb (trA W n i) 4) := T4'
   clear X4' T4'
   by_cases hlt : i < f + m
   case neg =>
    have hi9 : i = f + m := by omega
    have e1 : ¬ (i : Int) < (f : Int) + (m : Int) := by omega
    have T5 : Hid (Bk wr wb (trA W n n) 4) := show Bk _ _ _ _ from by
     rw [← trA_end (i := i) (fun j h1 _ => HW.out.2.2 j (by omega))]; exact T4.out
    have hq5 : (q : Int) < 5 := by have := HL.out.2.2.2.2.1; omega
    obtain ⟨t0, t1⟩ := TX.out wr X4.out.bl
    have e2 := wrap_sum HL.out.2.2.2.2.2 HL.out.2.2.2.1
    clear hfi him hlt hi9 T4
    have y12 : wr.cell? ⟨b, 12, none⟩ = some (.slice (some ⟨g3, 0, none⟩) 5 c3) := (X4.out.p.cell 12).trans rfl
    go_upto_region 14 with (first
     | (go_at_call 57; with_reducible refine (NX.out _ wb n T5.out).mono ?_; rintro e w4 ⟨rfl, b4⟩)
     | (refine wpList_store_bk rfl 103 (.tmp 14) (.tmp 99) rfl w4.heap.size #[.int .i64 (n : Int), .int .i64 ((nx : Nat) - 1 : Int)] rfl rfl (Bk.new _ _ _) (by kernel_rfl) rfl rfl ?_; intro w5 s5 o5))
    have X5 : Hid _ := (X4.out.next b4).next (below_new o5)
    have F5 : Hid (Bk w5 w4.heap.size #[.int .i64 (n : Int), .int .i64 ((nx : Nat) - 1 : Int)] 103) := s5
    clear X4 b4 o5 s5 T5 t0 t1 y12 e1 e2 NX TX HW
    generalize w4.heap.size = fq at *
    cases is with
    | false =>
     go_wp2_with (first
      | (refine wpList_load_bk rfl 34 (.tmp 3) rfl b rfl _ X5.out.p Tryz.underlying34 rfl (by kernel_rfl) ?_)
      | (refine wpList_store_bk rfl 34 (.tmp 6) (.tmp 104) rfl (b + 1) (zqP cw ch n cd cr ci cb we ca node g1 c1 g2 c2 g3 c3 g4 c4 (5 * n)) rfl rfl X5.out.r (by kernel_rfl) rfl rfl ?_; intro wF qF oF))
     have XF := X5.out.ret oF qF
     exact bodyPost_ret (v := .tuple #[.agg (zqP cw ch n cd cr ci cb we ca node g1 c1 g2 c2 g3 c3 g4 c4 (5 * n)), .bool false]) (results_ct (P := Tryz.prog) Tryz.results21 _ _ (b + 1) 34 _ _ rfl qF Tryz.underlying34 rfl (by kernel_rfl)) rfl ⟨_, rfl, DR0.out _ XF.bl, XF.bl⟩
    | true =>
     go_upto_region 16 with fail
     go_upto_region 17 with (first
      | (refine wpList_load_bk rfl 34 (.tmp 3) rfl b rfl _ X5.out.p Tryz.underlying34 rfl (by kernel_rfl) ?_)
      | (go_at_call 44; with_reducible refine (CC.out _ X5.out.bl).mono ?_; rintro e w2 ⟨k1, k2, k3, k4, d1, d2, d3, d4, rfl, r4, hkk, b2⟩)
      | (refine wpList_store_bk rfl 34 (.tmp 17) (.tmp 106) rfl w2.heap.size (zqP cw ch n cd cr ci cb we ca node k1 d1 k2 d2 k3 d3 k4 d4 (5 * n)) rfl rfl (Bk.new _ _ _) (by kernel_rfl) rfl rfl ?_; intro w3 s3 o3))
     have X3 : Hid _ := (X5.out.next b2).next (below_new o3)
     have N3 : Hid _ := N5.of r4 X5.out.lt b2.size hkk s3 o3
     have B3 : Hid (Below w5.heap.size w5 w3) := (b2.trans ((below_new o3).mono b2.size))
     have F3 : Hid (Bk w3 fq #[.int .i64 (n : Int), .int .i64 ((nx : Nat) - 1 : Int)] 103) := F5.out.next B3.out
     clear X5 F5 b2 r4 s3 o3 hkk CC B3
     generalize w2.heap.size = mm at *
     obtain ⟨cur, hcur, hsz, hset⟩ := N3.out.set3 HL.out.2.1 nx
     have HS : Hid _ := hset
     have z12 : w3.cell? ⟨mm, 12, none⟩ = some (.slice (some ⟨k3, 0, none⟩) 5 d3) := (N3.out.o.cell 12).trans rfl
     clear hset
     go_upto_region 18 with (first
      | (refine wpList_load_bk rfl 103 (.tmp 14) rfl fq rfl _ F3.out Tryz.underlying103 rfl (by kernel_rfl) ?_)
      | (refine wpList_store_part rfl 103 (.tmp 111) (.tmp 110) rfl k3 (q * 2) #[.int .i64 (n : Int), .int .i64 ((nx : Nat) - 1 : Int)] rfl rfl hcur (by kernel_rfl) hsz rfl ?_; intro w6 s6 o6))
     have M6 : Hid _ := HS.out w6 s6 o6
     have X6 : Hid _ := X3.out.on o6 N3.out.lt.2.2.2.1
     clear X3 N3 HS hcur hsz z12 s6 o6 F3
     obtain ⟨z, hz⟩ : ∃ z, q * n + i9 = z := ⟨_, rfl⟩
     have hz5 : z < 5 * n := hz ▸ ix5 HL.out.2.2.2.2.1 HI.out
     have hz6 : (z : Int) < 5 * (n : Int) := by omega
     obtain ⟨j1, j2⟩ := ix_walk HL.out.2.2.2.2.1 HI.out HL.out.2.2.2.1 hz
     have HZ : Hid (z < own.length ∧ q * n + i9 = z) := show _ ∧ _ from ⟨by rw [HL.out.2.2.1]; exact hz5, hz⟩
     obtain ⟨⟨oy, hoy⟩, hof, hset⟩ := M6.out.set2 HZ.out.1 (k : Int)
     have HS : Hid _ := hset
     clear hset hz hz5
     have z11 : w6.cell? ⟨mm, 11, none⟩ = some (.slice (some ⟨k2, 0, none⟩) (5 * n) d2) := (M6.out.o.cell 11).trans rfl
     have y2 : w6.cell? ⟨b, 2, none⟩ = some (.int .i64 (n : Int)) := (X6.out.p.cell 2).trans rfl
     go_upto_region 19 with fail
     have M7 : Hid _ := HS.out
     have X7 : Hid (S2 w (w6.setCell ⟨k2, z, none⟩ (.int .i64 (k : Int))) b (zqP cw ch n cd cr ci cb we ca node g1 c1 g2 c2 g3 c3 g4 c4 (5 * n)) zqZ) := X6.out.on ((On.refl k2 w6).set z _) M6.out.lt.2.2.1
     clear X6 M6 HS z11 y2 hoy hof j1 j2 hz6
     generalize w6.setCell ⟨k2, z, none⟩ (.int .i64 (k : Int)) = w7 at *
     obtain ⟨x0, x1, x2, x3, x4, x5⟩ := SX.out _ X7.out.bl
     have y10 : w7.cell? ⟨b, 10, none⟩ = some (.slice (some ⟨g1, 0, none⟩) (5 * n) c1) := (X7.out.p.cell 10).trans rfl
     go_upto_region 20 with (first
      | (go_at_call 58; with_reducible refine (GC.out _).mono ?_; rintro e w8 ⟨rfl, b8⟩)
      | (refine wpList_store_bk rfl 100 (.tmp 18) (.tmp 131) rfl w8.heap.size (zq2 (K'.r : Int) K'.ph K'.port K'.lane a K'.ws.length cap K'.cp) rfl rfl (Bk.new _ _ _) (by kernel_rfl) rfl rfl ?_; intro w9 s9 o9))
     have X9 : Hid _ := (X7.out.next b8).next (below_new o9)
     have M9 : Hid _ := (M7.out.next b8).next (below_new o9)
     have S9 : Hid (Bk w9 w8.heap.size (zq2 (K'.r : Int) K'.ph K'.port K'.lane a K'.ws.length cap K'.cp) 100) := s9
     clear X7 M7 b8 s9 o9 x0 x1 x2 x3 x4 x5 y10 GC SX
     generalize w8.heap.size = q9 at *
     obtain ⟨cur, hcur, hsz, hset⟩ := M9.out.set1 HL.out.1 (K', a, cap)
     have HS : Hid _ := hset
     have z10 : w9.cell? ⟨mm, 10, none⟩ = some (.slice (some ⟨k1, 0, none⟩) (5 * n) d1) := (M9.out.o.cell 10).trans rfl
     clear hset
     go_upto_region 21 with (first
      | (refine wpList_load_bk rfl 100 (.tmp 18) rfl q9 rfl _ S9.out Tryz.underlying100 rfl (by kernel_rfl) ?_)
      | (refine wpList_store_part rfl 100 (.tmp 137) (.tmp 136) rfl k1 (k * 6) (zq2 (K'.r : Int) K'.ph K'.port K'.lane a K'.ws.length cap K'.cp) rfl rfl hcur (by kernel_rfl) hsz rfl ?_; intro w10 s10 o10))
     have M10 : Hid _ := HS.out w10 s10 o10
     have X10 : Hid _ := X9.out.on o10 M9.out.on1
     clear X9 M9 HS hcur hsz z10 s10 o10 S9
     go_wp2_with (first
      | (refine wpList_load_bk rfl 34 (.tmp 17) rfl mm rfl _ M10.out.o Tryz.underlying34 rfl (by kernel_rfl) ?_)
      | (refine wpList_store_bk rfl 34 (.tmp 6) (.tmp 138) rfl (b + 1) (zqP cw ch n cd cr ci cb we ca node k1 d1 k2 d2 k3 d3 k4 d4 (5 * n)) rfl rfl X10.out.r (by kernel_rfl) rfl rfl ?_; intro wF qF oF))
     have XF := X10.out.ret oF qF
     have hlt := M10.out.lt
     have hbb := XF.hb
     refine bodyPost_ret (v := .tuple #[.agg (zqP cw ch n cd cr ci cb we ca node k1 d1 k2 d2 k3 d3 k4 d4 (5 * n)), .bool true]) (results_ct (P := Tryz.prog) Tryz.results21 _ _ (b + 1) 34 _ _ rfl qF Tryz.underlying34 rfl (by kernel_rfl)) rfl ⟨_, rfl, ?_, XF.bl⟩
     have hf := FIN.out wF k1 k2 k3 k4 d1 d2 d3 d4 K' a cap (own.set z (k : Int)) (gv.set q nx) mv XF.bl (M10.out.ret oF).r ⟨by omega, by omega, by omega, by omega⟩ (HRD.out _ XF.bl) HWH.out
     rw [← HZ.out.2] at hf
     exact hf
   have hin : i < n := by have := HL.out.2.2.2.2.2; omega
   obtain ⟨z, hz⟩ : ∃ z, q * n + i = z := ⟨_, rfl⟩
   have hz5 : z < 5 * n := hz ▸ ix5 HL.out.2.2.2.2.1 hin
   have hz6 : (z : Int) < 5 * (n : Int) := by omega
   have hz7 : (i : Int) < (n : Int) := by omega
   have e1 : (i : Int) < (f : Int) + (m : Int) := by omega
   obtain ⟨j1, j2⟩ := ix_walk HL.out.2.2.2.2.1 hin HL.out.2.2.2.1 hz
   have oz := OX.out wr X4.out.bl z hz5
   have tb : wr.cell? ⟨wb, i, none⟩ = some (.bool (decide (i < i) && W i)) := (T4.out.cell i).trans (trA_at hin)
   have tf := T4.out.free i
   have hWi : Hid (W i = decide (own.getD z 0 < 0)) := show _ = _ from by rw [← hz]; exact HW.out.1 i hfi hlt
   have HFI : Hid (f ≤ i ∧ i < f + m ∧ i < n ∧ b + 1 < wb) := show _ ∧ _ ∧ _ ∧ _ from ⟨hfi, hlt, hin, HB1.out⟩
   have hws := HL.out.2.2.2.2.2
   have hw8 := HL.out.2.2.2.1
   have e2 := wrap_sum hws hw8
   have e3 := wrap_next hin (Nat.le_trans hw8 (by decide))
   clear hfi him hlt hin hz hz5 hws hw8
   have y2 : wr.cell? ⟨b, 2, none⟩ = some (.int .i64 (n : Int)) := (X4.out.p.cell 2).trans rfl
   have y11 : wr.cell? ⟨b, 11, none⟩ = some (.slice (some ⟨g2, 0, none⟩) (5 * n) c2) := (X4.out.p.cell 11).trans rfl
   generalize hoz : own.getD z 0 = ozz at *
   have HOZ : Hid (own.getD z 0 = ozz) := hoz
   clear hoz
   go_wp2
   go_roundw
   case rel =>
    have hw := hWi.out
    have T6 := T4.out.set i (.bool (W i))
    rw [trA_step HFI.out.2.2.1, hw] at T6
    exact ⟨i + 1, by have := HFI.out; omega, by have := HFI.out; omega, by go_num, X4.out.on ((On.refl wb wr).set i _) HFI.out.2.2.2, T6⟩
   case measure =>
    have := HFI.out
    simp [RowKit.intOf]
    omega
end Go.Proofs.YtmmegmonmilkcaaGreatDoor
