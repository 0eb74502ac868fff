/-
 The program's router: Move. (Written by gen_rmove.py.)
-/
import Derived.Test.YtmmegmonmilkcaaGreatDoorRtTake
namespace Go.Proofs.YtmmegmonmilkcaaGreatDoor
open Go.RowKit
theorem four_start (w : World) (r f : Value) (p : Int) : Bk ((((w.alloc (.cells #[r] 28)).alloc (.cells #[.int .i64 p] 3)).alloc (.cells #[f] 66)).alloc (.cells (zq1 0 0 0 false false 0 0) 63)) w.heap.size #[r] 28 ∧ Bk ((((w.alloc (.cells #[r] 28)).alloc (.cells #[.int .i64 p] 3)).alloc (.cells #[f] 66)).alloc (.cells (zq1 0 0 0 false false 0 0) 63)) (w.heap.size + 1) #[.int .i64 p] 3 ∧ Bk ((((w.alloc (.cells #[r] 28)).alloc (.cells #[.int .i64 p] 3)).alloc (.cells #[f] 66)).alloc (.cells (zq1 0 0 0 false false 0 0) 63)) (w.heap.size + 1 + 1) #[f] 66 ∧ Bk ((((w.alloc (.cells #[r] 28)).alloc (.cells #[.int .i64 p] 3)).alloc (.cells #[f] 66)).alloc (.cells (zq1 0 0 0 false false 0 0) 63)) (w.heap.size + 1 + 1 + 1) (zq1 0 0 0 false false 0 0) 63 ∧ Below w.heap.size w ((((w.alloc (.cells #[r] 28)).alloc (.cells #[.int .i64 p] 3)).alloc (.cells #[f] 66)).alloc (.cells (zq1 0 0 0 false false 0 0) 63)) := by
 have s1 : (w.alloc (.cells #[r] 28)).heap.size = w.heap.size + 1 := by simp
 have s2 : ((w.alloc (.cells #[r] 28)).alloc (.cells #[.int .i64 p] 3)).heap.size = w.heap.size + 1 + 1 := by simp
 have s3 : (((w.alloc (.cells #[r] 28)).alloc (.cells #[.int .i64 p] 3)).alloc (.cells #[f] 66)).heap.size = w.heap.size + 1 + 1 + 1 := by simp
 refine ⟨(((Bk.new w _ _).alloc _).alloc _).alloc _, ?_, ?_, ?_, ((((Below.refl _ _).alloc (Nat.le_refl _) _).alloc (by omega) _).alloc (by omega) _).alloc (by omega) _⟩
 ·rw [← s1]; exact ((Bk.new _ _ _).alloc _).alloc _
 ·rw [← s2]; exact (Bk.new _ _ _).alloc _
 ·rw [← s3]; exact Bk.new _ _ _
theorem seven_cells {v : World} {k : Nat} {c0 c1 c2 c3 c4 c5 c6 : Value} {t : TypeId} (M : Bk v k #[c0, c1, c2, c3, c4, c5, c6] t) : (v.cell? ⟨k, 0, none⟩ = some c0 ∧ v.cell? ⟨k, 1, none⟩ = some c1 ∧ v.cell? ⟨k, 2, none⟩ = some c2 ∧ v.cell? ⟨k, 3, none⟩ = some c3 ∧ v.cell? ⟨k, 4, none⟩ = some c4 ∧ v.cell? ⟨k, 5, none⟩ = some c5 ∧ v.cell? ⟨k, 6, none⟩ = some c6) ∧ (v.frozen? ⟨k, 0, none⟩ = false ∧ v.frozen? ⟨k, 1, none⟩ = false ∧ v.frozen? ⟨k, 2, none⟩ = false ∧ v.frozen? ⟨k, 3, none⟩ = false ∧ v.frozen? ⟨k, 4, none⟩ = false ∧ v.frozen? ⟨k, 5, none⟩ = false ∧ v.frozen? ⟨k, 6, none⟩ = false) :=
 ⟨⟨(M.cell 0).trans rfl, (M.cell 1).trans rfl, (M.cell 2).trans rfl, (M.cell 3).trans rfl, (M.cell 4).trans rfl, (M.cell 5).trans rfl, (M.cell 6).trans rfl⟩, M.free 0, M.free 1, M.free 2, M.free 3, M.free 4, M.free 5, M.free 6⟩
section
variable {w : World} {b : Nat} {c : G.Cf} {S : RS} {F : Nat → Prop}
set_option maxRecDepth 100000 in
set_option maxHeartbeats 4000000 in
theorem router_move (h : Rt w b c S F) (p : Int) (g : Nat) (lb : Array Value) (m : Int → Bool) (hg : May w g lb m) : Calls Tryz.prog 24 #[.pointer (some ⟨b, 0, none⟩), .int .i64 p, .func (.func g) #[] lb] w fun e w' => ∃ F', e = .returned (.tuple #[.agg (mvc (moveRt S p m).2.1 ((moveRt S p m).2.2.1 / S.n) ((moveRt S p m).2.2.1 % S.n)), .bool (moveRt S p m).2.2.2]) ∧ Rt w' b c (moveRt S p m).1 F' ∧ Gr F w w' F' := by
 obtain ⟨ok, hc, hn, Y, h, rfl⟩ := h
 have okp := ok.move p m
 obtain ⟨n0, n1, n2, n3, b0⟩ := four_start w (.pointer (some ⟨b, 0, none⟩)) (.func (.func g) #[] lb) p
 have N0 : Hid (Bk ((((w.alloc (.cells #[.pointer (some ⟨b, 0, none⟩)] 28)).alloc (.cells #[.int .i64 p] 3)).alloc (.cells #[.func (.func g) #[] lb] 66)).alloc (.cells (zq1 0 0 0 false false 0 0) 63)) w.heap.size #[.pointer (some ⟨b, 0, none⟩)] 28) := n0
 have N1 : Hid (Bk ((((w.alloc (.cells #[.pointer (some ⟨b, 0, none⟩)] 28)).alloc (.cells #[.int .i64 p] 3)).alloc (.cells #[.func (.func g) #[] lb] 66)).alloc (.cells (zq1 0 0 0 false false 0 0) 63)) (w.heap.size + 1) #[.int .i64 p] 3) := n1
 have N2 : Hid (Bk ((((w.alloc (.cells #[.pointer (some ⟨b, 0, none⟩)] 28)).alloc (.cells #[.int .i64 p] 3)).alloc (.cells #[.func (.func g) #[] lb] 66)).alloc (.cells (zq1 0 0 0 false false 0 0) 63)) (w.heap.size + 1 + 1) #[.func (.func g) #[] lb] 66) := n2
 have N3 : Hid (Bk ((((w.alloc (.cells #[.pointer (some ⟨b, 0, none⟩)] 28)).alloc (.cells #[.int .i64 p] 3)).alloc (.cells #[.func (.func g) #[] lb] 66)).alloc (.cells (zq1 0 0 0 false false 0 0) 63)) (w.heap.size + 1 + 1 + 1) (zq1 0 0 0 false false 0 0) 63) := n3
 have B0 : Hid (Below w.heap.size w ((((w.alloc (.cells #[.pointer (some ⟨b, 0, none⟩)] 28)).alloc (.cells #[.int .i64 p] 3)).alloc (.cells #[.func (.func g) #[] lb] 66)).alloc (.cells (zq1 0 0 0 false false 0 0) 63))) := b0
 have K0 : Hid _ := h.next B0.out
 have OF : Hid (∀ q, w.heap.size ≤ q → ¬ fpr Y q) := show _ from fun q hq hf => by have := h.at_.lt q hf; omega
 have PC := hasPort_any b p ((((w.alloc (.cells #[.pointer (some ⟨b, 0, none⟩)] 28)).alloc (.cells #[.int .i64 p] 3)).alloc (.cells #[.func (.func g) #[] lb] 66)).alloc (.cells (zq1 0 0 0 false false 0 0) 63))
 have hmf : ∀ (fn : Fn) (first cap : Array Value) (w : World), (Instr.makeFunc fn first cap).run Tryz.prog w = .ok (.func fn first cap) w := fun _ _ _ _ => rfl
 clear n0 n1 n2 n3 b0
 have zm : mvc zko (0 / S.n) (0 % S.n) = zmvc := by simp [mvc, zmvc, zko]
 by_cases hp : 0 ≤ p ∧ p < 5
 case neg =>
  have e1 : moveRt S p m = (S, zko, 0, false) := by unfold moveRt; rw [if_neg hp]
  rw [e1]
  simp only [zm]
  rw [decide_eq_false hp] at PC
  have HK : Hid (Rt ((((w.alloc (.cells #[.pointer (some ⟨b, 0, none⟩)] 28)).alloc (.cells #[.int .i64 p] 3)).alloc (.cells #[.func (.func g) #[] lb] 66)).alloc (.cells (zq1 0 0 0 false false 0 0) 63)) b c S (fpr Y)) := show Rt _ _ _ _ _ from ⟨ok, hc, hn, Y, K0.out, rfl⟩
  clear okp h hn hc ok e1 hp hg zm K0
  go_enter Tryz.func24, Tryz.ntmps24
  go_upto_region 1 with fail
  generalize ((((w.alloc (.cells #[.pointer (some ⟨b, 0, none⟩)] 28)).alloc (.cells #[.int .i64 p] 3)).alloc (.cells #[.func (.func g) #[] lb] 66)).alloc (.cells (zq1 0 0 0 false false 0 0) 63)) = v0 at *
  obtain ⟨a, ha⟩ : ∃ x, w.heap.size = x := ⟨_, rfl⟩
  have HA : Hid (w.heap.size = a) := ha
  rw [ha] at N0 N1 N2 N3 OF ⊢
  clear ha
  have c0 := (N0.out.cell 0).trans rfl
  have c1 := (N1.out.cell 0).trans rfl
  go_wp2_with fail
  go_at_call 66
  with_reducible refine PC.mono ?_
  rintro e w1 ⟨rfl, b1⟩
  have M3 : Hid (Bk w1 (a + 1 + 1 + 1) (zq1 0 0 0 false false 0 0) 63) := N3.out.next b1
  have R1 : Hid (Rt w1 b c S (fpr Y) ∧ Gr (fpr Y) w w1 (fpr Y)) := show _ ∧ _ from ⟨HK.out.next b1, Gr.of (B0.out.trans (b1.mono B0.out.size))⟩
  obtain ⟨⟨z0, z1, z2, z3, z4, z5, z6⟩, f0, f1, f2, f3, f4, f5, f6⟩ := seven_cells M3.out
  clear PC c0 c1 N0 N1 N2 N3 HK B0 b1
  generalize hmb : a + 1 + 1 + 1 = mb at *
  have HMB : Hid (w.heap.size ≤ mb) := show _ ≤ _ from by rw [HA.out]; omega
  clear hmb
  go_wp2
  refine bodyPost_ret (v := .tuple #[.agg (zq1 0 0 0 false false 0 0), .bool false]) ?_ rfl ?_
  ·have YY := seven_at (x0 := .int .i64 0) (x1 := .int .i64 0) (x2 := .int .u64 0) (x3 := .bool false) (x4 := .bool false) (x5 := .int .i64 0) (x6 := .int .i64 0) M3.out
   have Y0 := (YY.cell 0).trans rfl
   have Y1 := (YY.cell 1).trans rfl
   have Y2 := (YY.cell 2).trans rfl
   have Y3 := (YY.cell 3).trans rfl
   have Y4 := (YY.cell 4).trans rfl
   have Y5 := (YY.cell 5).trans rfl
   have Y6 := (YY.cell 6).trans rfl
   simp [results, Tryz.results24, go_sem, Y0, Y1, Y2, Y3, Y4, Y5, Y6]
  ·exact ⟨fpr Y, rfl, ((((((R1.out.1.far (OF.out _ (HA.out ▸ HMB.out))).far (OF.out _ (HA.out ▸ HMB.out))).far (OF.out _ (HA.out ▸ HMB.out))).far (OF.out _ (HA.out ▸ HMB.out))).far (OF.out _ (HA.out ▸ HMB.out))).far (OF.out _ (HA.out ▸ HMB.out))).far (OF.out _ (HA.out ▸ HMB.out)), Gr.seven R1.out.2 HMB.out _ _ _ _ _ _ _⟩
 obtain ⟨P, rfl⟩ : ∃ P : Nat, p = (P : Int) := ⟨p.toNat, by omega⟩
 have hP : P < 5 := by omega
 have e1 : moveRt S (P : Int) m = if (ask (5 * S.n) (S.mv.getD P 0) (goesRt S (P : Int) m)).2 = true then
   ({ S with
     mv := S.mv.set P (nxtl (5 * S.n) (S.mv.getD P 0) (goesRt S (P : Int) m)),
     ins := S.ins.set (ask (5 * S.n) (S.mv.getD P 0) (goesRt S (P : Int) m)).1 (takeK (S.ins.getD (ask (5 * S.n) (S.mv.getD P 0) (goesRt S (P : Int) m)).1 zks)).1,
     own := if (takeK (S.ins.getD (ask (5 * S.n) (S.mv.getD P 0) (goesRt S (P : Int) m)).1 zks)).2.1.ends = true ∧ (P : Int) ≠ 0 then S.own.set (P * S.n + (takeK (S.ins.getD (ask (5 * S.n) (S.mv.getD P 0) (goesRt S (P : Int) m)).1 zks)).2.1.lane.toNat) (-1) else S.own },
    (takeK (S.ins.getD (ask (5 * S.n) (S.mv.getD P 0) (goesRt S (P : Int) m)).1 zks)).2.1, (ask (5 * S.n) (S.mv.getD P 0) (goesRt S (P : Int) m)).1, true)
  else (S, zko, 0, false) := by
  unfold moveRt
  rw [if_pos hp, Int.toNat_natCast]
 have N5 : 0 < 5 * S.n := by have := ok.n1; omega
 have hmt := ok.mt P hP
 have NX : Hid (∀ v a, RtAt v b c S Y → May v g lb m → Bk v a #[.pointer (some ⟨b, 0, none⟩)] 28 → Bk v (a + 1) #[.int .i64 (P : Int)] 3 → Bk v (a + 1 + 1) #[.func (.func g) #[] lb] 66 → Calls Tryz.prog 61 #[.pointer (some ⟨Y.mb P, 0, none⟩), .func (.func 67) #[] #[.pointer (some ⟨a, 0, none⟩), .pointer (some ⟨a + 1, 0, none⟩), .pointer (some ⟨a + 1 + 1, 0, none⟩)]] v fun e w' => e = .returned (.tuple #[.int .i64 ((ask (5 * S.n) (S.mv.getD P 0) (goesRt S (P : Int) m)).1 : Int), .bool (ask (5 * S.n) (S.mv.getD P 0) (goesRt S (P : Int) m)).2]) ∧ RtAt w' b c { S with mv := S.mv.set P (nxtl (5 * S.n) (S.mv.getD P 0) (goesRt S (P : Int) m)) } Y ∧ On (Y.mb P) v w') := show _ from fun v a hv hm ha hb hf => by
  refine (FA.next_grows (g := 67) (lb := #[.pointer (some ⟨a, 0, none⟩), .pointer (some ⟨a + 1, 0, none⟩), .pointer (some ⟨a + 1 + 1, 0, none⟩)]) (W := goesRt S (P : Int) m) (b := Y.mb P) (w := v) (fun a u => move_ent a u) N5 (by have := ok.n8; omega) hmt (hv.at_.mf P hP) (fun u k hk hu => move1_any (hv.next hu) ok hn (by omega) (hm.next hu) hk a (a + 1) (a + 1 + 1) (ha.next hu) (hb.next hu) (hf.next hu))).mono ?_
  rintro e w' ⟨rfl, h1, h2⟩
  exact ⟨rfl, hv.moves ok.ml hP h2 h1, h2⟩
 have hX5 : nxtl (5 * S.n) (S.mv.getD P 0) (goesRt S (P : Int) m) ≤ 5 * S.n := by
  unfold nxtl
  split
  ·have := ask_lt (l := S.mv.getD P 0) (W := goesRt S (P : Int) m) N5
   omega
  ·exact hmt
 have haw : (ask (5 * S.n) (S.mv.getD P 0) (goesRt S (P : Int) m)).2 = false → nxtl (5 * S.n) (S.mv.getD P 0) (goesRt S (P : Int) m) = S.mv.getD P 0 := fun e => by unfold nxtl; rw [e]; rfl
 have hal := ask_lt (l := S.mv.getD P 0) (W := goesRt S (P : Int) m) N5
 have hgo := ask_want (N := 5 * S.n) (l := S.mv.getD P 0) (W := goesRt S (P : Int) m)
 rw [e1] at okp ⊢
 obtain ⟨X, hX⟩ : ∃ X, nxtl (5 * S.n) (S.mv.getD P 0) (goesRt S (P : Int) m) = X := ⟨_, rfl⟩
 rw [hX] at NX haw okp hX5 ⊢
 generalize hr : ask (5 * S.n) (S.mv.getD P 0) (goesRt S (P : Int) m) = r at *
 obtain ⟨k, is⟩ := r
 clear hX e1 hr
 simp only at *
 rw [decide_eq_true hp] at PC
 have hP5 : (P : Int) < 5 := by omega
 have hP0 : (0 : Int) ≤ (P : Int) := by omega
 have HMB : Hid (Y.tg (Y.mb P) ≠ 0) := show _ ≠ _ from by rw [h.at_.tM P hP]; omega
 have RC : Hid (∀ v, RtAt v b c S Y → v.cell? ⟨b, 10 + P * 4 + 3, none⟩ = some (.pointer (some ⟨Y.mb P, 0, none⟩))) := show _ from fun v hv => (hv.port hP).2.2.2
 have OKS : Hid (ROk { S with mv := S.mv.set P X }) := show ROk _ from ⟨ok.n1, ok.n8, ok.il, ok.ol, ok.gl, by simp [ok.ml], ok.ik, ok.ip, ok.oi, ok.io, ok.gt, fun q hq => by
  show (S.mv.set P X).getD q 0 ≤ 5 * S.n
  rw [getDset _ _ _ _ _ (by rw [ok.ml]; exact hP)]
  split
  ·exact hX5
  ·exact ok.mt q hq⟩
 clear hp hmt hX5 N5
 have RC2 : Hid (∀ v, RtAt v b c { S with mv := S.mv.set P X } Y → v.cell? ⟨b, 10 + P * 4 + 3, none⟩ = some (.pointer (some ⟨Y.mb P, 0, none⟩))) := show _ from fun v hv => (hv.port hP).2.2.2
 cases is with
 | false =>
  have eS : ({ S with mv := S.mv.set P X } : RS) = S := by
   have : S.mv.set P X = S.mv := by
    rw [haw rfl, List.getD_eq_getElem?_getD, List.getElem?_eq_getElem (by rw [ok.ml]; exact hP)]
    simp
   rw [this]
  have HK : Hid (∀ v, RtAt v b c { S with mv := S.mv.set P X } Y → Rt v b c S (fpr Y)) := show _ from fun v hv => by
   rw [eS] at hv
   exact ⟨ok, hc, hn, Y, hv, rfl⟩
  simp only [Bool.false_eq_true, if_false, zm]
  clear haw eS okp h hc hn hal hgo zm OKS ok
  go_enter Tryz.func24, Tryz.ntmps24
  go_upto_region 1 with fail
  generalize ((((w.alloc (.cells #[.pointer (some ⟨b, 0, none⟩)] 28)).alloc (.cells #[.int .i64 (P : Int)] 3)).alloc (.cells #[.func (.func g) #[] lb] 66)).alloc (.cells (zq1 0 0 0 false false 0 0) 63)) = v0 at *
  obtain ⟨a, ha⟩ : ∃ x, w.heap.size = x := ⟨_, rfl⟩
  have HA : Hid (w.heap.size = a) := ha
  have HB0 : Hid (Below w.heap.size w v0) := B0.out
  rw [ha] at N0 N1 N2 N3 OF ⊢
  clear ha B0
  have c0 := (N0.out.cell 0).trans rfl
  have c1 := (N1.out.cell 0).trans rfl
  go_wp2_with fail
  go_at_call 66
  with_reducible refine PC.mono ?_
  rintro e w1 ⟨rfl, b1⟩
  have M0 : Hid (Bk w1 a #[.pointer (some ⟨b, 0, none⟩)] 28) := N0.out.next b1
  have M1 : Hid (Bk w1 (a + 1) #[.int .i64 (P : Int)] 3) := N1.out.next b1
  have M2 : Hid (Bk w1 (a + 1 + 1) #[.func (.func g) #[] lb] 66) := N2.out.next b1
  have M3 : Hid (Bk w1 (a + 1 + 1 + 1) (zq1 0 0 0 false false 0 0) 63) := N3.out.next b1
  have K1 : Hid _ := K0.out.next b1
  have B1 : Hid (Below w.heap.size w w1) := HB0.out.trans (b1.mono HB0.out.size)
  have Y1 : Hid (May w1 g lb m) := hg.next B1.out
  clear PC c0 c1 N0 N1 N2 N3 K0 HB0 b1
  go_wp2_with fail
  have D1 : Below w1.heap.size w1 w1.drew := (Below.refl _ _).drew
  have NC := NX.out w1.drew a (K1.out.next D1) (Y1.out.next D1) (M0.out.next D1) (M1.out.next D1) (M2.out.next D1)
  have Z1 := And.intro (((M0.out.next D1).cell 0).trans rfl) (And.intro (((M1.out.next D1).cell 0).trans rfl) (RC.out _ (K1.out.next D1)))
  have G1 : Gr (fpr Y) w w1.drew (fpr Y) := Gr.of (B1.out.trans (D1.mono B1.out.size))
  have J0 := M0.out.next D1
  have J1 := M1.out.next D1
  have J3 := M3.out.next D1
  have x0 : a ≠ Y.mb P := fun e9 => OF.out a (Nat.le_refl _) (by rw [e9]; exact HMB.out)
  have x1 : a + 1 ≠ Y.mb P := fun e9 => OF.out (a + 1) (Nat.le_add_right _ _) (by rw [e9]; exact HMB.out)
  have x3 : a + 1 + 1 + 1 ≠ Y.mb P := fun e9 => OF.out (a + 1 + 1 + 1) (by omega) (by rw [e9]; exact HMB.out)
  go_region_held3 (fun v => v.cell? ⟨a, 0, none⟩ = some (.pointer (some ⟨b, 0, none⟩)) ∧ v.cell? ⟨a + 1, 0, none⟩ = some (.int .i64 (P : Int)) ∧ v.cell? ⟨b, 10 + P * 4 + 3, none⟩ = some (.pointer (some ⟨Y.mb P, 0, none⟩)))
   (first | exact Z7 | exact Z1 | go_keep)
   (first
    | (go_at_call 61; (with_reducible refine NC.mono ?_); rintro e w7 ⟨rfl, k7, o7⟩; have L0 := J0.on o7 x0; have L1 := J1.on o7 x1; have L3 := J3.on o7 x3; have Z7 := And.intro ((L0.cell 0).trans rfl) (And.intro ((L1.cell 0).trans rfl) (RC2.out _ k7)); have G7 := G1.trans (RtAt.gr HMB.out o7))
    | fail)
  all_goals
   have KK : Hid _ := k7
   have H0 : Hid (Bk w7 a #[.pointer (some ⟨b, 0, none⟩)] 28) := L0
   have H3 : Hid (Bk w7 (a + 1 + 1 + 1) (zq1 0 0 0 false false 0 0) 63) := L3
   have HG : Hid (Gr (fpr Y) w w7 (fpr Y)) := G7
   clear Z7 L0 L1 L3 G7 k7 o7 J0 J1 J3 G1 Z1 NC D1 M0 M1 M2 M3 K1 B1 Y1 x0 x1 x3 NX
  all_goals
   obtain ⟨⟨z0, z1, z2, z3, z4, z5, z6⟩, f0, f1, f2, f3, f4, f5, f6⟩ := seven_cells H3.out
   generalize hmb : a + 1 + 1 + 1 = mb at *
   have HMA : Hid (a ≤ mb) := show a ≤ mb from by omega
   have HMW : Hid (w.heap.size ≤ mb) := show _ ≤ mb from by rw [HA.out]; omega
   clear hmb
   go_wp2
   refine bodyPost_ret (v := .tuple #[.agg (zq1 0 0 0 false false 0 0), .bool false]) ?_ rfl ?_
   ·have YY := seven_at (x0 := .int .i64 0) (x1 := .int .i64 0) (x2 := .int .u64 0) (x3 := .bool false) (x4 := .bool false) (x5 := .int .i64 0) (x6 := .int .i64 0) H3.out
    have Y0 := (YY.cell 0).trans rfl
    have Y1 := (YY.cell 1).trans rfl
    have Y2 := (YY.cell 2).trans rfl
    have Y3 := (YY.cell 3).trans rfl
    have Y4 := (YY.cell 4).trans rfl
    have Y5 := (YY.cell 5).trans rfl
    have Y6 := (YY.cell 6).trans rfl
    simp [results, Tryz.results24, go_sem, Y0, Y1, Y2, Y3, Y4, Y5, Y6]
   ·exact ⟨fpr Y, rfl, (((((((HK.out _ KK.out).far (OF.out _ HMA.out)).far (OF.out _ HMA.out)).far (OF.out _ HMA.out)).far (OF.out _ HMA.out)).far (OF.out _ HMA.out)).far (OF.out _ HMA.out)).far (OF.out _ HMA.out), Gr.seven HG.out HMW.out _ _ _ _ _ _ _⟩
 | true =>
  have hgk := goesRt_iff.1 (hgo rfl)
  have hn1 := ok.n1
  have hn8 := ok.n8
  have tlane : (takeK (S.ins.getD k zks)).2.1.lane = (S.ins.getD k zks).lane := by
   rcases take_cases (S.ins.getD k zks) with ⟨h0, -⟩ | ⟨-, ⟨h0, -⟩ | ⟨x, t, -, e1⟩⟩
   ·exact absurd hgk.1 h0
   ·exact absurd h0 hgk.2.2.1
   ·rw [e1]; rfl
  have hin : inRt { S with mv := S.mv.set P X } ((k / S.n : Nat) : Int) ((k % S.n : Nat) : Int) = true := inRt_iff.2 ⟨Int.natCast_nonneg _, show ((k / S.n : Nat) : Int) < ((5 : Nat) : Int) from Int.ofNat_lt.2 (Nat.div_lt_of_lt_mul (by rw [Nat.mul_comm]; exact hal)), Int.natCast_nonneg _, Int.ofNat_lt.2 (Nat.mod_lt k ok.n1)⟩
  have hix : ixRt { S with mv := S.mv.set P X } ((k / S.n : Nat) : Int) ((k % S.n : Nat) : Int) = k := by
   unfold ixRt
   rw [Int.toNat_natCast, Int.toNat_natCast, Nat.mul_comm]
   exact Nat.div_add_mod k S.n
  have TKC : Hid (∀ v, RtAt v b c { S with mv := S.mv.set P X } Y → Calls Tryz.prog 71 #[.pointer (some ⟨b, 0, none⟩), .int .i64 ((k / S.n : Nat) : Int), .int .i64 ((k % S.n : Nat) : Int)] v fun e w' => e = .returned (.agg #[.int .i64 (takeK (S.ins.getD k zks)).2.1.port, .int .i64 (takeK (S.ins.getD k zks)).2.1.lane, .int .u64 ((takeK (S.ins.getD k zks)).2.1.word : Int), .bool (takeK (S.ins.getD k zks)).2.1.copy, .bool (takeK (S.ins.getD k zks)).2.1.ends, .int .i64 ((k / S.n : Nat) : Int), .int .i64 ((k % S.n : Nat) : Int)]) ∧ ∃ Y', RtAt w' b c { S with mv := S.mv.set P X, ins := S.ins.set k (takeK (S.ins.getD k zks)).1, own := if (takeK (S.ins.getD k zks)).2.1.ends = true ∧ (P : Int) ≠ 0 then S.own.set (P * S.n + (takeK (S.ins.getD k zks)).2.1.lane.toNat) (-1) else S.own } Y' ∧ Gr (fpr Y) v w' (fpr Y')) := show _ from fun v hv => by
   refine (take_any hv OKS.out (k := k) hal hgk.1 hgk.2.2.1 hin hix).mono ?_
   rintro e w' ⟨rfl, Y', k1, g1⟩
   refine ⟨rfl, Y', ?_, g1⟩
   have hpt : (S.ins.getD k zks).port = (P : Int) := hgk.2.1
   rw [tlane]
   simp only [hpt, Int.toNat_natCast] at k1
   exact k1
  have PLC : Hid (∀ v, RtAt v b c { S with mv := S.mv.set P X } Y → Calls Tryz.prog 68 #[.pointer (some ⟨b, 0, none⟩), .int .i64 (k : Int)] v fun e w' => e = .returned (.tuple #[.int .i64 ((k / S.n : Nat) : Int), .int .i64 ((k % S.n : Nat) : Int)]) ∧ Below v.heap.size v w') := show _ from fun v hv => place_any hv hn hn1 hn8 hal
  simp only [if_true] at okp ⊢
  clear tlane hin hix hgk hgo haw hn1 hn8 OKS zm hal
  simp only [mvc]
  generalize (takeK (S.ins.getD k zks)).1 = KS1 at *
  generalize (takeK (S.ins.getD k zks)).2.1 = o at *
  obtain ⟨op, ol, ow, oc, oe⟩ := o
  simp only at *
  obtain ⟨S', hS'⟩ : ∃ S' : RS, { S with mv := S.mv.set P X, ins := S.ins.set k KS1, own := if oe = true ∧ (P : Int) ≠ 0 then S.own.set (P * S.n + ol.toNat) (-1) else S.own } = S' := ⟨_, rfl⟩
  rw [hS'] at okp TKC ⊢
  have HN' : Hid ((S'.n : Int) = c.l) := show _ = _ from by rw [← hS']; exact hn
  clear hS'
  have HOK : Hid (ROk S' ∧ G.chk c = 0) := show _ ∧ _ from ⟨okp, hc⟩
  clear okp hc hn h ok
  generalize ((k / S.n : Nat) : Int) = kq at *
  generalize ((k % S.n : Nat) : Int) = kr at *
  go_enter Tryz.func24, Tryz.ntmps24
  go_upto_region 1 with fail
  generalize ((((w.alloc (.cells #[.pointer (some ⟨b, 0, none⟩)] 28)).alloc (.cells #[.int .i64 (P : Int)] 3)).alloc (.cells #[.func (.func g) #[] lb] 66)).alloc (.cells (zq1 0 0 0 false false 0 0) 63)) = v0 at *
  obtain ⟨a, ha⟩ : ∃ x, w.heap.size = x := ⟨_, rfl⟩
  have HA : Hid (w.heap.size = a) := ha
  have HB0 : Hid (Below w.heap.size w v0) := B0.out
  rw [ha] at N0 N1 N2 N3 OF ⊢
  clear ha B0
  have c0 := (N0.out.cell 0).trans rfl
  have c1 := (N1.out.cell 0).trans rfl
  go_wp2_with fail
  go_at_call 66
  with_reducible refine PC.mono ?_
  rintro e w1 ⟨rfl, b1⟩
  have M0 : Hid (Bk w1 a #[.pointer (some ⟨b, 0, none⟩)] 28) := N0.out.next b1
  have M1 : Hid (Bk w1 (a + 1) #[.int .i64 (P : Int)] 3) := N1.out.next b1
  have M2 : Hid (Bk w1 (a + 1 + 1) #[.func (.func g) #[] lb] 66) := N2.out.next b1
  have M3 : Hid (Bk w1 (a + 1 + 1 + 1) (zq1 0 0 0 false false 0 0) 63) := N3.out.next b1
  have K1 : Hid _ := K0.out.next b1
  have B1 : Hid (Below w.heap.size w w1) := HB0.out.trans (b1.mono HB0.out.size)
  have Y1 : Hid (May w1 g lb m) := hg.next B1.out
  clear PC c0 c1 N0 N1 N2 N3 K0 HB0 b1
  go_wp2_with fail
  have D1 : Below w1.heap.size w1 w1.drew := (Below.refl _ _).drew
  have NC := NX.out w1.drew a (K1.out.next D1) (Y1.out.next D1) (M0.out.next D1) (M1.out.next D1) (M2.out.next D1)
  have Z1 := And.intro (((M0.out.next D1).cell 0).trans rfl) (And.intro (((M1.out.next D1).cell 0).trans rfl) (RC.out _ (K1.out.next D1)))
  have G1 : Gr (fpr Y) w w1.drew (fpr Y) := Gr.of (B1.out.trans (D1.mono B1.out.size))
  have J0 := M0.out.next D1
  have J1 := M1.out.next D1
  have J3 := M3.out.next D1
  have x0 : a ≠ Y.mb P := fun e9 => OF.out a (Nat.le_refl _) (by rw [e9]; exact HMB.out)
  have x1 : a + 1 ≠ Y.mb P := fun e9 => OF.out (a + 1) (Nat.le_add_right _ _) (by rw [e9]; exact HMB.out)
  have x3 : a + 1 + 1 + 1 ≠ Y.mb P := fun e9 => OF.out (a + 1 + 1 + 1) (by omega) (by rw [e9]; exact HMB.out)
  go_region_held3 (fun v => v.cell? ⟨a, 0, none⟩ = some (.pointer (some ⟨b, 0, none⟩)) ∧ v.cell? ⟨a + 1, 0, none⟩ = some (.int .i64 (P : Int)) ∧ v.cell? ⟨b, 10 + P * 4 + 3, none⟩ = some (.pointer (some ⟨Y.mb P, 0, none⟩)))
   (first | exact Z7 | exact Z1 | go_keep)
   (first
    | (go_at_call 61; (with_reducible refine NC.mono ?_); rintro e w7 ⟨rfl, k7, o7⟩; have L0 := J0.on o7 x0; have L1 := J1.on o7 x1; have L3 := J3.on o7 x3; have Z7 := And.intro ((L0.cell 0).trans rfl) (And.intro ((L1.cell 0).trans rfl) (RC2.out _ k7)); have G7 := G1.trans (RtAt.gr HMB.out o7))
    | fail)
  all_goals
   have KK : Hid _ := k7
   have H0 : Hid (Bk w7 a #[.pointer (some ⟨b, 0, none⟩)] 28) := L0
   have H3 : Hid (Bk w7 (a + 1 + 1 + 1) (zq1 0 0 0 false false 0 0) 63) := L3
   have HG : Hid (Gr (fpr Y) w w7 (fpr Y)) := G7
   clear Z7 L0 L1 L3 G7 k7 o7 J0 J1 J3 G1 Z1 NC D1 M0 M1 M2 M3 K1 B1 Y1 x0 x1 x3 NX
  all_goals
   generalize hmb : a + 1 + 1 + 1 = mb at *
   have HMA : Hid (a ≤ mb) := show a ≤ mb from by omega
   have HMW : Hid (w.heap.size ≤ mb) := show _ ≤ mb from by rw [HA.out]; omega
   have hne : a ≠ mb := by omega
   clear hmb
   go_upto_region 6 with fail
   go_wp2_with fail
   have D7 : Below w7.heap.size w7 w7.drew := (Below.refl _ _).drew
   have K7 := KK.out.next D7
   have P7 := PLC.out _ K7
   have J0 := H0.out.next D7
   have J3 := H3.out.next D7
   have G7 := HG.out.below D7
   have Z7 := (J0.cell 0).trans rfl
   have xa := OF.out a (Nat.le_refl _)
   have xm := OF.out mb HMA.out
   refine wp_region_G (fun V => V.cell? ⟨a, 0, none⟩ = some (.pointer (some ⟨b, 0, none⟩))) 7 (by kernel_rfl) ?_
   refine wpAnyG_tk [7] (some 30) (i := 0) (v := ?v0) rfl rfl (by kernel_rfl) (fun _ _ _ h => h) (Or.inl ⟨by rfl, ?y0⟩) Z7 ?r0
   case y0 => (intro V hSV; have s0 := hSV; go_simp; try with_reducible rfl)
   try simp only [Act.put, sqa, sqz, sqs]
   refine wpAnyG_tk [7] (some 31) (i := 1) (v := ?v1) rfl rfl (by kernel_rfl) (fun _ _ _ h => h) (Or.inl ⟨by rfl, ?y1⟩) Z7 ?r1
   case y1 => (intro V hSV; have s0 := hSV; go_simp; try with_reducible rfl)
   try simp only [Act.put, sqa, sqz, sqs]
   refine wpAnyG_tk [7] (some 32) (i := 2) (v := ?v2) rfl rfl (by kernel_rfl) (fun _ _ _ h => h) (Or.inl ⟨by rfl, ?y2⟩) Z7 ?r2
   case y2 => (intro V hSV; have s0 := hSV; go_simp; try with_reducible rfl)
   try simp only [Act.put, sqa, sqz, sqs]
   refine wpAnyG_one (i := 3) (by kernel_rfl) rfl (fun K hK => ?_)
   go_simp
   with_reducible refine (P7).mono ?_
   rintro e w8 ⟨rfl, b8⟩
   have K8 := K7.next b8
   have T8 := TKC.out w8 K8
   have L0 := J0.next b8
   have L3 := J3.next b8
   have G8 := G7.below b8
   have Z8 := (L0.cell 0).trans rfl
   refine hK.out _ _ (Or.inr Z8) ?_
   clear hK K
   try simp only [Act.put, sqa, sqz, sqs]
   refine wpAnyG_tk [7] (some 34) (i := 4) (v := ?v4) rfl rfl (by kernel_rfl) (fun _ _ _ h => h) (Or.inl ⟨by rfl, ?y4⟩) Z8 ?r4
   case y4 => (intro V hSV; have s0 := hSV; go_simp; try with_reducible rfl)
   try simp only [Act.put, sqa, sqz, sqs]
   refine wpAnyG_tk [7] (some 35) (i := 5) (v := ?v5) rfl rfl (by kernel_rfl) (fun _ _ _ h => h) (Or.inl ⟨by rfl, ?y5⟩) Z8 ?r5
   case y5 => (intro V hSV; have s0 := hSV; go_simp; try with_reducible rfl)
   try simp only [Act.put, sqa, sqz, sqs]
   refine wpAnyG_one (i := 6) (by kernel_rfl) rfl (fun K hK => ?_)
   go_simp
   with_reducible refine (T8).mono ?_
   rintro e w9 ⟨rfl, Y', k9, g9⟩
   have Q0 := L0.gr g9 xa
   have Q3 := L3.gr g9 xm
   have G9 := G8.trans g9
   have Z9 := (Q0.cell 0).trans rfl
   obtain ⟨⟨z0, z1, z2, z3, z4, z5, z6⟩, f0, f1, f2, f3, f4, f5, f6⟩ := seven_cells Q3
   have O9 := g9.off xm L3.lt
   refine hK.out _ _ (Or.inr Z9) ?_
   clear hK K
   try simp only [Act.put, sqa, sqz, sqs]
   refine wpAnyG_one (i := 7) (by kernel_rfl) rfl (fun K hK => ?_)
   go_simp
   refine hK.out _ _ (Or.inl (by kernel_rfl)) ?_
   clear hK K
   try simp only [Act.put, sqa, sqz, sqs]
   refine wpAnyG_one (i := 8) (by kernel_rfl) rfl (fun K hK => ?_)
   go_simp
   refine hK.out _ _ (Or.inl (by kernel_rfl)) ?_
   clear hK K
   try simp only [Act.put, sqa, sqz, sqs]
   refine wpAnyG_done (by kernel_rfl) ?_ _
   ·have HK9 : Hid (RtAt w9 b c S' Y' ∧ Gr (fpr Y) w w9 (fpr Y') ∧ ¬ fpr Y' mb) := show _ ∧ _ ∧ _ from ⟨k9, G9, O9⟩
    have H3 : Hid (Bk w9 mb (zq1 0 0 0 false false 0 0) 63) := Q3
    clear Z9 Z8 Z7 Q0 Q3 G9 G8 L0 L3 T8 K8 b8 k9 g9 O9 J0 J3 G7 P7 K7 D7 z0 z1 z2 z3 z4 z5 z6 f0 f1 f2 f3 f4 f5 f6
    try go_wp2
    refine bodyPost_ret (v := .tuple #[.agg (zq1 op ol (ow : Int) oc oe kq kr), .bool true]) ?_ rfl ?_
    ·have YY := seven_at (x0 := .int .i64 op) (x1 := .int .i64 ol) (x2 := .int .u64 (ow : Int)) (x3 := .bool oc) (x4 := .bool oe) (x5 := .int .i64 kq) (x6 := .int .i64 kr) H3.out
     have Y0 := (YY.cell 0).trans rfl
     have Y1 := (YY.cell 1).trans rfl
     have Y2 := (YY.cell 2).trans rfl
     have Y3 := (YY.cell 3).trans rfl
     have Y4 := (YY.cell 4).trans rfl
     have Y5 := (YY.cell 5).trans rfl
     have Y6 := (YY.cell 6).trans rfl
     simp [results, Tryz.results24, go_sem, Y0, Y1, Y2, Y3, Y4, Y5, Y6]
    ·exact ⟨fpr Y', rfl, ⟨HOK.out.1, HOK.out.2, HN'.out, Y', HK9.out.1.seven HK9.out.2.2 _ _ _ _ _ _ _, rfl⟩, Gr.seven HK9.out.2.1 HMW.out _ _ _ _ _ _ _⟩
end
end Go.Proofs.YtmmegmonmilkcaaGreatDoor
