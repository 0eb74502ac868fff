/-
 The program's router: a word is taken, Move. (Written by gen_rtake.py.)
-/
import Derived.Test.YtmmegmonmilkcaaGreatDoorRtMov
namespace Go.Proofs.YtmmegmonmilkcaaGreatDoor
open Go.RowKit
theorem take_facts {S : RS} (ok : ROk S) {k : Nat} (hk : k < 5 * S.n) (h2 : (S.ins.getD k zks).ph = 2) (hw : (S.ins.getD k zks).ws ≠ []) (lz : (S.ins.getD k zks).port = 0 → (S.ins.getD k zks).lane = 0) :
  ∃ (P L : Nat) (ow : Nat) (oc oe : Bool), takeK (S.ins.getD k zks) = ((takeK (S.ins.getD k zks)).1, ⟨(P : Int), (L : Int), ow, oc, oe⟩, 0) ∧ (S.ins.getD k zks).port = (P : Int) ∧ (S.ins.getD k zks).lane = (L : Int) ∧ P < 5 ∧ L < S.n ∧
   (if oe = true ∧ (S.ins.getD k zks).port ≠ 0 then S.own.set ((S.ins.getD k zks).port.toNat * S.n + (S.ins.getD k zks).lane.toNat) (-1) else S.own) = if oe = true then S.own.set (P * S.n + L) (-1) else S.own := by
 have ip := ok.ip k hk
 have io := ok.io k hk h2
 have o0 := ok.oi 0 (by omega)
 have n1 := ok.n1
 have ol := ok.ol
 generalize S.ins.getD k zks = K at *
 rcases take_cases K with ⟨h, -⟩ | ⟨-, ⟨h, -⟩ | ⟨x, t, hx, e1⟩⟩
 ·exact absurd h2 h
 ·exact absurd h hw
 ·obtain ⟨P, hP⟩ : ∃ P : Nat, K.port = (P : Int) := ⟨K.port.toNat, by omega⟩
  by_cases h0 : P = 0
  ·subst h0
   have hl := lz (by rw [hP]; rfl)
   refine ⟨0, 0, x, _, _, by rw [e1]; unfold outK; rw [hP, hl]; rfl, by rw [hP], by rw [hl]; rfl, by omega, by omega, ?_⟩
   rw [if_neg (fun c => c.2 (by rw [hP]; rfl))]
   have hz : S.own.set (0 * S.n + 0) (-1) = S.own := by
    have : S.own.getD 0 0 = -1 := by omega
    rw [Nat.zero_mul, Nat.zero_add]
    rw [List.getD_eq_getElem?_getD, List.getElem?_eq_getElem (by omega)] at this
    rw [← this]
    simp
   rw [hz, ite_self]
  ·have hl := io (by omega)
   obtain ⟨L, hL⟩ : ∃ L : Nat, K.lane = (L : Int) := ⟨K.lane.toNat, by omega⟩
   refine ⟨P, L, x, _, _, by rw [e1]; unfold outK; rw [hP, hL], hP, hL, by omega, by omega, ?_⟩
   rw [hP, hL, Int.toNat_natCast, Int.toNat_natCast]
   have hne : (P : Int) ≠ 0 := by omega
   simp [h0]
section
variable {w : World} {b : Nat} {c : G.Cf} {S : RS} {Y : Lay}
theorem seven_at {v : World} {k : Nat} {c0 c1 c2 c3 c4 c5 c6 x0 x1 x2 x3 x4 x5 x6 : Value} {t : TypeId} (h : Bk v k #[c0, c1, c2, c3, c4, c5, c6] t) : Bk (((((((v.setCell ⟨k, 0, none⟩ x0).setCell ⟨k, 1, none⟩ x1).setCell ⟨k, 2, none⟩ x2).setCell ⟨k, 3, none⟩ x3).setCell ⟨k, 4, none⟩ x4).setCell ⟨k, 5, none⟩ x5).setCell ⟨k, 6, none⟩ x6) k #[x0, x1, x2, x3, x4, x5, x6] t := by
 simpa using ((((((h.set 0 x0).set 1 x1).set 2 x2).set 3 x3).set 4 x4).set 5 x5).set 6 x6
theorem Gr.seven {F G : Nat → Prop} {x y : World} {k : Nat} (h : Gr F x y G) (hk : x.heap.size ≤ k) (x0 x1 x2 x3 x4 x5 x6 : Value) : Gr F x (((((((y.setCell ⟨k, 0, none⟩ x0).setCell ⟨k, 1, none⟩ x1).setCell ⟨k, 2, none⟩ x2).setCell ⟨k, 3, none⟩ x3).setCell ⟨k, 4, none⟩ x4).setCell ⟨k, 5, none⟩ x5).setCell ⟨k, 6, none⟩ x6) G := ((((((h.setNew hk).setNew hk).setNew hk).setNew hk).setNew hk).setNew hk).setNew hk
theorem RtAt.far {k j : Nat} {x : Value} (h : RtAt w b c S Y) (hk : ¬ fpr Y k) : RtAt (w.setCell ⟨k, j, none⟩ x) b c S Y := h.keep (by simp) fun g hg => Below.heap_setCell w ⟨k, j, none⟩ x g fun e => hk (by rw [← show g = k from e]; exact hg)
theorem RtAt.seven {k : Nat} (h : RtAt w b c S Y) (hk : ¬ fpr Y k) (x0 x1 x2 x3 x4 x5 x6 : Value) : RtAt (((((((w.setCell ⟨k, 0, none⟩ x0).setCell ⟨k, 1, none⟩ x1).setCell ⟨k, 2, none⟩ x2).setCell ⟨k, 3, none⟩ x3).setCell ⟨k, 4, none⟩ x4).setCell ⟨k, 5, none⟩ x5).setCell ⟨k, 6, none⟩ x6) b c S Y := ((((((h.far hk).far hk).far hk).far hk).far hk).far hk).far hk
set_option maxRecDepth 100000 in
set_option maxHeartbeats 4000000 in
theorem take_any (h : RtAt w b c S Y) (ok : ROk S) {k : Nat} (hk : k < 5 * S.n) (h2 : (S.ins.getD k zks).ph = 2) (hw : (S.ins.getD k zks).ws ≠ []) {kq kr : Int} (hin : inRt S kq kr = true) (hix : ixRt S kq kr = k) : Calls Tryz.prog 71 #[.pointer (some ⟨b, 0, none⟩), .int .i64 kq, .int .i64 kr] w fun e w' =>
  e = .returned (.agg #[.int .i64 (takeK (S.ins.getD k zks)).2.1.port, .int .i64 (takeK (S.ins.getD k zks)).2.1.lane, .int .u64 ((takeK (S.ins.getD k zks)).2.1.word : Int), .bool (takeK (S.ins.getD k zks)).2.1.copy, .bool (takeK (S.ins.getD k zks)).2.1.ends, .int .i64 kq, .int .i64 kr]) ∧
  ∃ Y', RtAt w' b c { S with ins := S.ins.set k (takeK (S.ins.getD k zks)).1, own := if (takeK (S.ins.getD k zks)).2.1.ends = true ∧ (S.ins.getD k zks).port ≠ 0 then S.own.set ((S.ins.getD k zks).port.toNat * S.n + (S.ins.getD k zks).lane.toNat) (-1) else S.own } Y' ∧ Gr (fpr Y) w w' (fpr Y') := by
 obtain ⟨P, L, ow, oc, oe, e1, hP, hL, hP5, hLn, eo⟩ := take_facts ok hk h2 hw (h.lz k hk h2)
 have e2 : (takeK (S.ins.getD k zks)).2.1 = ⟨(P : Int), (L : Int), ow, oc, oe⟩ := by rw [e1]
 have e3 : (takeK (S.ins.getD k zks)).2.2 = 0 := by rw [e1]
 rw [e2, eo]
 have LZ := lz_take (h.lz k hk)
 have TC : Hid (∀ v, RtAt v b c S Y → Calls Tryz.prog 99 #[.pointer (some ⟨Y.kb k, 0, none⟩)] v fun e w' => e = .returned (.tuple #[.agg (zq4 (P : Int) (L : Int) (ow : Int) oc oe), .int .i64 0]) ∧ ∃ Y', RtAt w' b c { S with ins := S.ins.set k (takeK (S.ins.getD k zks)).1 } Y' ∧ Gr (fpr Y) v w' (fpr Y')) := show _ from fun v hv => by
  refine (lane_take (hv.at_.kn k hk)).mono ?_
  rintro e w' ⟨F', rfl, k1, g1⟩
  obtain ⟨Y', h', g'⟩ := hv.lane ok.il hk k1 g1 LZ
  exact ⟨by simp only [kov, koc, e2, e3], Y', h', g'⟩
 have EC : Hid (∀ v, RtAt v b c S Y → Calls Tryz.prog 46 #[.pointer (some ⟨b, 0, none⟩), .int .i64 kq, .int .i64 kr] v fun e w' => e = .returned (.pointer (some ⟨Y.kb k, 0, none⟩)) ∧ Below v.heap.size v w') := show _ from fun v hv => by
  have := entry_any hv ok.n8 kq kr
  rwa [if_pos hin, hix] at this
 have ol := ok.ol
 have HS : Hid _ := h
 have N0 : Hid (Bk (w.alloc (.cells (zq1 0 0 0 false false 0 0) 63)) w.heap.size (zq1 0 0 0 false false 0 0) 63) := Bk.new _ _ _
 have B0 : Hid (Below w.heap.size w (w.alloc (.cells (zq1 0 0 0 false false 0 0) 63))) := (Below.refl _ _).alloc (Nat.le_refl _) _
 have K0 : Hid _ := h.next B0.out
 have OF : Hid (¬ fpr Y w.heap.size) := show ¬ fpr Y w.heap.size from fun hf => Nat.lt_irrefl _ (h.at_.lt _ hf)
 clear e1 e2 e3 eo hP hL LZ hin hix h2 hw h ok hk
 generalize S.ins.set k (takeK (S.ins.getD k zks)).1 = INS at *
 generalize Y.kb k = kb at *
 go_enter Tryz.func71, Tryz.ntmps71
 go_upto_region 1 with fail
 generalize w.alloc (.cells (zq1 0 0 0 false false 0 0) 63) = v0 at *
 obtain ⟨mb, hmb⟩ : ∃ x, w.heap.size = x := ⟨_, rfl⟩
 have HMB : Hid (w.heap.size = mb) := hmb
 rw [hmb] at N0 OF ⊢
 clear hmb
 have EC0 := EC.out v0 K0.out
 go_wp2_with fail
 go_at_call 46
 with_reducible refine EC0.mono ?_
 rintro e w1 ⟨rfl, b1⟩
 have TC1 := TC.out w1 (K0.out.next b1)
 have M1 : Hid (Bk w1 mb (zq1 0 0 0 false false 0 0) 63) := N0.out.next b1
 have B1 : Hid (Below w.heap.size w w1) := B0.out.trans (b1.mono B0.out.size)
 clear EC EC0 TC N0 B0 K0 b1 HS
 go_upto_region 2 with (go_at_call 99; with_reducible refine TC1.mono ?_; rintro e w2 ⟨rfl, Y', k2, g2⟩)
 have O3 : Hid (Bk (w2.alloc (.cells (zq4 (P : Int) (L : Int) (ow : Int) oc oe) 61)) w2.heap.size (zq4 (P : Int) (L : Int) (ow : Int) oc oe) 61) := Bk.new _ _ _
 have M3 : Hid (Bk (w2.alloc (.cells (zq4 (P : Int) (L : Int) (ow : Int) oc oe) 61)) mb (zq1 0 0 0 false false 0 0) 63) := (M1.out.gr g2 OF.out).alloc _
 have K3 : Hid (RtAt (w2.alloc (.cells (zq4 (P : Int) (L : Int) (ow : Int) oc oe) 61)) b c { S with ins := INS } Y') := k2.next ((Below.refl _ _).alloc (Nat.le_refl _) _)
 have G3 : Hid (Gr (fpr Y) w (w2.alloc (.cells (zq4 (P : Int) (L : Int) (ow : Int) oc oe) 61)) (fpr Y')) := (g2.after B1.out).below ((Below.refl _ _).alloc (Nat.le_refl _) _)
 have OF3 : Hid (¬ fpr Y' mb ∧ ¬ fpr Y' w2.heap.size ∧ mb ≠ w2.heap.size) := show _ ∧ _ ∧ _ from ⟨g2.off OF.out M1.out.lt, fun hf => Nat.lt_irrefl _ (k2.at_.lt _ hf), Nat.ne_of_lt (Nat.lt_of_lt_of_le M1.out.lt g2.size)⟩
 clear TC1 M1 B1 k2 g2 OF
 generalize hw3 : w2.alloc (.cells (zq4 (P : Int) (L : Int) (ow : Int) oc oe) 61) = w3 at *
 clear hw3
 generalize w2.heap.size = ob at *
 obtain ⟨y0, y1, y2, y3, y4⟩ := O3.out.five
 cases oe with
 | false =>
  obtain ⟨z0, z1, z2, z3, z4, z5, z6⟩ : w3.cell? ⟨mb, 0, none⟩ = some (.int .i64 0) ∧ w3.cell? ⟨mb, 1, none⟩ = some (.int .i64 0) ∧ w3.cell? ⟨mb, 2, none⟩ = some (.int .u64 0) ∧ w3.cell? ⟨mb, 3, none⟩ = some (.bool false) ∧ w3.cell? ⟨mb, 4, none⟩ = some (.bool false) ∧ w3.cell? ⟨mb, 5, none⟩ = some (.int .i64 0) ∧ w3.cell? ⟨mb, 6, none⟩ = some (.int .i64 0) := ⟨(M3.out.cell 0).trans rfl, (M3.out.cell 1).trans rfl, (M3.out.cell 2).trans rfl, (M3.out.cell 3).trans rfl, (M3.out.cell 4).trans rfl, (M3.out.cell 5).trans rfl, (M3.out.cell 6).trans rfl⟩
  obtain ⟨f0, f1, f2, f3, f4, f5, f6⟩ : w3.frozen? ⟨mb, 0, none⟩ = false ∧ w3.frozen? ⟨mb, 1, none⟩ = false ∧ w3.frozen? ⟨mb, 2, none⟩ = false ∧ w3.frozen? ⟨mb, 3, none⟩ = false ∧ w3.frozen? ⟨mb, 4, none⟩ = false ∧ w3.frozen? ⟨mb, 5, none⟩ = false ∧ w3.frozen? ⟨mb, 6, none⟩ = false := ⟨M3.out.free 0, M3.out.free 1, M3.out.free 2, M3.out.free 3, M3.out.free 4, M3.out.free 5, M3.out.free 6⟩
  have HM9 : Hid (Bk w3 mb (zq1 0 0 0 false false 0 0) 63) := M3.out
  have HK9 : Hid (RtAt w3 b c { S with ins := INS } Y' ∧ Gr (fpr Y) w w3 (fpr Y')) := show _ ∧ _ from ⟨K3.out, G3.out⟩
  clear K3 G3 M3 O3
  go_wp2
  refine bodyPost_ret (v := .agg (zq1 (P : Int) (L : Int) (ow : Int) oc false kq kr)) ?_ rfl ?_
  ·have YY := seven_at (x0 := .int .i64 (P : Int)) (x1 := .int .i64 (L : Int)) (x2 := .int .u64 (ow : Int)) (x3 := .bool oc) (x4 := .bool false) (x5 := .int .i64 kq) (x6 := .int .i64 kr) HM9.out
   have Y0 := (YY.cell 0).trans rfl
   have Y1 := (YY.cell 1).trans rfl
   have Y2 := (YY.cell 2).trans rfl
   have Y3 := (YY.cell 3).trans rfl
   have Y4 := (YY.cell 4).trans rfl
   have Y5 := (YY.cell 5).trans rfl
   have Y6 := (YY.cell 6).trans rfl
   simp [results, Tryz.results71, go_sem, Y0, Y1, Y2, Y3, Y4, Y5, Y6]
  ·exact ⟨rfl, Y', HK9.out.1.seven OF3.out.1 _ _ _ _ _ _ _, Gr.seven HK9.out.2 (k := mb) (Nat.le_of_eq HMB.out) _ _ _ _ _ _ _⟩
 | true =>
  have hw9 := K3.out.at_.ow P hP5
  have c1 := (K3.out.port hP5).2.1
  have d0 := (hw9.cells hLn 0 (by decide)).trans (o3_at _ _ (by decide))
  have d1 := (hw9.cells hLn 1 (by decide)).trans (o3_at _ _ (by decide))
  have d2 := (hw9.cells hLn 2 (by decide)).trans (o3_at _ _ (by decide))
  rw [Nat.add_zero] at d0
  have z0 := hw9.free (L * 3)
  have z1 := hw9.free (L * 3 + 1)
  have z2 := hw9.free (L * 3 + 2)
  have hp0 : (0 : Int) ≤ (P : Int) := by omega
  have hp5 : (P : Int) < 5 := by omega
  have hl0 : (0 : Int) ≤ (L : Int) := by omega
  have hln : (L : Int) < (S.n : Int) := by omega
  simp only at c1 d0 d1 d2
  have OCC : Hid (∀ w', w' = ((w3.setCell ⟨Y'.ob P, L * 3, none⟩ (.int .i64 0)).setCell ⟨Y'.ob P, L * 3 + 1, none⟩ (.int .i64 0)).setCell ⟨Y'.ob P, L * 3 + 2, none⟩ (.bool false) → RtAt w' b c { S with ins := INS, own := S.own.set (P * S.n + L) (-1) } Y' ∧ Gr (fpr Y') w3 w' (fpr Y') ∧ On (Y'.ob P) w3 w') := show _ from fun w' e9 => by
   have o1 : On (Y'.ob P) w3 w' := by rw [e9]; exact on_three _ _ _ _ _ _ _ _
   refine ⟨K3.out.owner (x := -1) ol hP5 hLn o1 ?_, RtAt.gr (by rw [K3.out.at_.tO P hP5]; omega) o1, o1⟩
   rw [e9]
   exact hw9.put hLn (-1) (by unfold o3; rw [if_neg (by decide)])
  have hno : ¬ fpr Y' (Y'.ob P) → False := fun hf => hf (by show Y'.tg (Y'.ob P) ≠ 0; rw [K3.out.at_.tO P hP5]; omega)
  have HNO : Hid (mb ≠ Y'.ob P ∧ ob ≠ Y'.ob P) := show _ ∧ _ from ⟨fun e9 => hno (by rw [← e9]; exact OF3.out.1), fun e9 => hno (by rw [← e9]; exact OF3.out.2.1)⟩
  clear hw9 hno
  go_upto_region 3 with fail
  go_region
  obtain ⟨K4, G4, o4⟩ := OCC.out _ rfl
  have M4 := M3.out.on o4 HNO.out.1
  have O4 := O3.out.on o4 HNO.out.2
  clear OCC y0 y1 y2 y3 y4 c1 d0 d1 d2 z0 z1 z2 o4
  generalize ((w3.setCell ⟨Y'.ob P, L * 3, none⟩ (.int .i64 0)).setCell ⟨Y'.ob P, L * 3 + 1, none⟩ (.int .i64 0)).setCell ⟨Y'.ob P, L * 3 + 2, none⟩ (.bool false) = w4 at *
  have D4 : Below w4.heap.size w4 w4.drew := (Below.refl _ _).drew
  have K5 := K4.next D4
  have G5 := (G3.out.trans G4).below D4
  have M5 := M4.next D4
  have O5 := O4.next D4
  clear K4 G4 M4 O4 D4
  generalize w4.drew = w5 at *
  obtain ⟨y0, y1, y2, y3, y4⟩ := O5.five
  obtain ⟨z0, z1, z2, z3, z4, z5, z6⟩ : w5.cell? ⟨mb, 0, none⟩ = some (.int .i64 0) ∧ w5.cell? ⟨mb, 1, none⟩ = some (.int .i64 0) ∧ w5.cell? ⟨mb, 2, none⟩ = some (.int .u64 0) ∧ w5.cell? ⟨mb, 3, none⟩ = some (.bool false) ∧ w5.cell? ⟨mb, 4, none⟩ = some (.bool false) ∧ w5.cell? ⟨mb, 5, none⟩ = some (.int .i64 0) ∧ w5.cell? ⟨mb, 6, none⟩ = some (.int .i64 0) := ⟨(M5.cell 0).trans rfl, (M5.cell 1).trans rfl, (M5.cell 2).trans rfl, (M5.cell 3).trans rfl, (M5.cell 4).trans rfl, (M5.cell 5).trans rfl, (M5.cell 6).trans rfl⟩
  obtain ⟨f0, f1, f2, f3, f4, f5, f6⟩ : w5.frozen? ⟨mb, 0, none⟩ = false ∧ w5.frozen? ⟨mb, 1, none⟩ = false ∧ w5.frozen? ⟨mb, 2, none⟩ = false ∧ w5.frozen? ⟨mb, 3, none⟩ = false ∧ w5.frozen? ⟨mb, 4, none⟩ = false ∧ w5.frozen? ⟨mb, 5, none⟩ = false ∧ w5.frozen? ⟨mb, 6, none⟩ = false := ⟨M5.free 0, M5.free 1, M5.free 2, M5.free 3, M5.free 4, M5.free 5, M5.free 6⟩
  have HM9 : Hid (Bk w5 mb (zq1 0 0 0 false false 0 0) 63) := M5
  have HK9 : Hid (RtAt w5 b c { S with ins := INS, own := S.own.set (P * S.n + L) (-1) } Y' ∧ Gr (fpr Y) w w5 (fpr Y')) := show _ ∧ _ from ⟨K5, G5⟩
  clear K3 G3 M3 O3
  go_wp2
  refine bodyPost_ret (v := .agg (zq1 (P : Int) (L : Int) (ow : Int) oc true kq kr)) ?_ rfl ?_
  ·have YY := seven_at (x0 := .int .i64 (P : Int)) (x1 := .int .i64 (L : Int)) (x2 := .int .u64 (ow : Int)) (x3 := .bool oc) (x4 := .bool true) (x5 := .int .i64 kq) (x6 := .int .i64 kr) HM9.out
   have Y0 := (YY.cell 0).trans rfl
   have Y1 := (YY.cell 1).trans rfl
   have Y2 := (YY.cell 2).trans rfl
   have Y3 := (YY.cell 3).trans rfl
   have Y4 := (YY.cell 4).trans rfl
   have Y5 := (YY.cell 5).trans rfl
   have Y6 := (YY.cell 6).trans rfl
   simp [results, Tryz.results71, go_sem, Y0, Y1, Y2, Y3, Y4, Y5, Y6]
  ·exact ⟨rfl, Y', HK9.out.1.seven OF3.out.1 _ _ _ _ _ _ _, Gr.seven HK9.out.2 (k := mb) (Nat.le_of_eq HMB.out) _ _ _ _ _ _ _⟩
end
end Go.Proofs.YtmmegmonmilkcaaGreatDoor
