/-
  The walk of GridBack.
-/
import Derived.Test.YthloamdffgcabaaDoorLinksW
namespace Go.Proofs.YthloamdffgcabaaDoor
open Go.RowKit

/-- All that the channels hang on. -/
def twin (w h : Int) : Cf := ⟨w, h, 1, 1, 1, 1, 1, false, false⟩
theorem chk_twin {c : Cf} (h : chk c = 0) : chk (twin c.w c.h) = 0 := by
  have f := fits_of h
  exact chk_fits ⟨f.w1, f.w2, f.h1, f.h2, by simp [twin], by simp [twin], fun h => absurd h Bool.false_ne_true, by simp [twin], by simp [twin], by simp [twin], by simp [twin], by simp [twin], by simp [twin], by simp [twin], by simp [twin]⟩
theorem lks_twin {c : Cf} (h : chk c = 0) : lks c = lks (twin c.w c.h) := by
  have t := chk_twin h
  have en : nod c = nod (twin c.w c.h) := by rw [nod_of h, nod_of t]; rfl
  have e1 : ∀ n, isN c n = isN (twin c.w c.h) n := fun n => by unfold isN; rw [en]
  have e2 : ∀ n, plx c n = plx (twin c.w c.h) n := fun n => by unfold plx; rw [e1]; rfl
  have e3 : ∀ n, ply c n = ply (twin c.w c.h) n := fun n => by unfold ply; rw [e1]; rfl
  have e4 : ∀ x y, inP c x y = inP (twin c.w c.h) x y := fun x y => by unfold inP; rw [h, t]; rfl
  have e5 : ∀ n p, bsB c n p = bsB (twin c.w c.h) n p := fun n p => by unfold bsB; rw [e1, e2, e3, e4]
  have e6 : ∀ n, prt c n = prt (twin c.w c.h) n := fun n => by unfold prt prtK; simp only [e5]
  unfold lks lksK
  rw [en]
  simp only [e6]
theorem lks_small : ∀ w h : Fin 4, ((lks (twin ((w : Nat) + 1) ((h : Nat) + 1))).length : Int) = 2 * ((w : Nat) * ((h : Nat) + 1) + ((w : Nat) + 1) * (h : Nat)) := by decide +kernel
/-- Two ways between any two beside one another. -/
theorem lks_len {c : Cf} (h : chk c = 0) (hw : c.w ≤ 4) (hh : c.h ≤ 4) : ((lks c).length : Int) = 2 * ((c.w - 1) * c.h + c.w * (c.h - 1)) := by
  have f := fits_of h
  have a := f.w1
  have b := f.h1
  rw [lks_twin h]
  obtain ⟨x, hx⟩ := Int.eq_ofNat_of_zero_le (by omega : 0 ≤ c.w - 1)
  obtain ⟨y, hy⟩ := Int.eq_ofNat_of_zero_le (by omega : 0 ≤ c.h - 1)
  have e := lks_small ⟨x, by omega⟩ ⟨y, by omega⟩
  simp only at e
  rw [show c.w = (x : Int) + 1 by omega, show c.h = (y : Int) + 1 by omega, e]
  rw [show (x : Int) + 1 - 1 = x by omega, show (y : Int) + 1 - 1 = y by omega]
theorem mul_small {a b : Int} (h1 : 0 ≤ a) (h2 : a ≤ 4) (h3 : 0 ≤ b) (h4 : b ≤ 4) : 0 ≤ a * b ∧ a * b ≤ 16 := by
  obtain ⟨x, rfl⟩ := Int.eq_ofNat_of_zero_le h1
  obtain ⟨y, rfl⟩ := Int.eq_ofNat_of_zero_le h3
  have g : x * y ≤ 4 * 4 := Nat.mul_le_mul (by omega) (by omega)
  have e : ((x : Int) * (y : Int)) = ((x * y : Nat) : Int) := by simp
  rw [e]
  omega

set_option maxRecDepth 100000 in
set_option maxHeartbeats 2000000 in
theorem gridBack_any (c : Cf) (n y : Int) (w : World) (hS : Steps w) (hB : Backs w) : Calls Tryd.prog 5 #[cfv c, .int .i64 n, .int .i64 y] w fun e w' => e = .returned (.bool true) ∧ Below w.heap.size w w' := by
  have T0 : Hid (W1 w c (w.alloc (.cells (cfc c) 23))) := W1.start _ _
  have LV := lives_any _ (T0.out.steps hS)
  have SM := fun v => small_form c v
  have HS : Hid (Steps w) := hS
  have HB : Hid (Backs w) := hB
  clear hS hB
  obtain ⟨cw, ch, cl, cd, cr, ci, cb, we, ca⟩ := c
  simp only [cfv, cfc] at *
  go_enter Tryd.func5, Tryd.ntmps5
  go_wp2_with fail
  go_at_call 8
  refine LV.mono ?_
  rintro e v1 ⟨rfl, hb⟩
  have T1 : Hid (W1 w _ v1) := T0.out.next hb
  clear hb LV T0
  go_upto_region 3 with fail
  go_cut [] from 13 to 16 (fun wc => ∃ c', W1 w c' wc ∧ Fits c' ∧ c'.w ≤ 4 ∧ c'.h ≤ 4)
  case first =>
    obtain ⟨x0, x1, x2, x3, x4, x5, x6, x7, x8⟩ := T1.out.cells
    have z1 := T1.out.lt
    simp only at x0 x1 x2 x3 x4 x5 x6 x7 x8
    go_wp2_with fail
    go_at_call 27
    refine (SM _).mono ?_
    rintro e v2 ⟨dw, dh, dl, dd, dr, di, db, de, da, rfl, hb, f, f1, f2⟩
    have T2 : Hid (W1 w _ v2) := T1.out.next hb
    have HF : Hid (Fits ⟨dw, dh, dl, dd, dr, di, db, de, da⟩) := f
    have HF1 : Hid (dw ≤ 4 ∧ dh ≤ 4) := ⟨f1, f2⟩
    clear x0 x1 x2 x3 x4 x5 x6 x7 x8 hb SM f f1 f2 z1
    obtain ⟨x0, x1, x2, x3, x4, x5, x6, x7, x8⟩ := T2.out.cells
    obtain ⟨g0, g1, g2, g3, g4, g5, g6, g7, g8⟩ := T2.out.free
    simp only at x0 x1 x2 x3 x4 x5 x6 x7 x8
    go_wp2_with fail
    go_meet
    exact ⟨⟨dw, dh, dl, dd, dr, di, db, de, da⟩, T2.out.all ⟨dw, dh, dl, dd, dr, di, db, de, da⟩, HF.out, HF1.out⟩
  case rest =>
  obtain ⟨c', h2, f, hw4, hh4⟩ := hcut
  obtain ⟨v2, rfl⟩ : ∃ v2 : World, v2 = wc := ⟨_, rfl⟩
  have hc := chk_fits f
  have LE := lks_len hc hw4 hh4
  have w1 := f.w1
  have h1 := f.h1
  have I1 := nde_in hc n
  have N1 := node_any c' hc n
  have B1 := fun v h => beside_any c' (nde c' n) y v h
  have IS := is_any c' (bsN c' (nde c' n) y)
  have B2 := fun v h => beside_any c' (bsN c' (nde c' n) y) (bck y) v h
  have K1 := fun v h => back_any y v h
  have K2 := fun v h => back_any (bck y) v h
  have K3 := fun v h => turned_any y v h
  rw [trn_ok] at K2
  have q1 := bck_in y
  have q2 := trn_in y
  have LK := fun v h => links_form c' v h
  have C1 : bsB c' (nde c' n) y = true → isN c' (bsN c' (nde c' n) y) = true ∧ bsB c' (bsN c' (nde c' n) y) (bck y) = true ∧ bsN c' (bsN c' (nde c' n) y) (bck y) = nde c' n := fun h => ⟨(step_ok h).2.2.2.1, back_ok h⟩
  have T2 : Hid (W1 w c' v2) := h2
  clear h2 hc f I1 SM T1
  generalize nde c' n = A at *
  generalize bsN c' A y = M at *
  generalize bsB c' A y = G at *
  generalize bsN c' M (bck y) = Z at *
  generalize bsB c' M (bck y) = Z1 at *
  generalize isN c' M = J at *
  generalize bck y = P at *
  generalize trn y = R at *
  generalize lks c' = LL at *
  obtain ⟨cw, ch, cl, cd, cr, ci, cb, we, ca⟩ := c'
  simp only [cfv, cfc] at *
  have HC1 : Hid (G = true → J = true ∧ Z1 = true ∧ Z = A) := C1
  obtain ⟨M1, e1⟩ : ∃ m, (cw - 1) * ch = m := ⟨_, rfl⟩
  obtain ⟨M2, e2⟩ : ∃ m, cw * (ch - 1) = m := ⟨_, rfl⟩
  have m1 := mul_small (a := cw - 1) (b := ch) (by omega) (by omega) (by omega) hh4
  have m2 := mul_small (a := cw) (b := ch - 1) (by omega) hw4 (by omega) (by omega)
  rw [e1] at m1
  rw [e2] at m2
  rw [e1, e2] at LE
  obtain ⟨N, hN⟩ : ∃ N, N = LL.length := ⟨_, rfl⟩
  rw [← hN] at LE LK
  have HE1 : Hid ((cw - 1) * ch = M1) := e1
  have HE2 : Hid (cw * (ch - 1) = M2) := e2
  have HLE : Hid (((N : Int) == 2 * (M1 + M2)) = true) := by rw [beq_iff_eq]; exact LE
  clear C1 e1 e2 LE hN
  obtain ⟨q1, q1'⟩ := q1
  obtain ⟨q2, q2'⟩ := q2
  obtain ⟨m1, m1'⟩ := m1
  obtain ⟨m2, m2'⟩ := m2
  obtain ⟨x0, x1, x2, x3, x4, x5, x6, x7, x8⟩ := T2.out.cells
  have z2 := T2.out.lt
  simp only at x0 x1 x2 x3 x4 x5 x6 x7 x8
  go_wp2_with fail
  go_at_call 28
  refine (N1 _).mono ?_
  rintro e v3 ⟨rfl, hb⟩
  have T3 : Hid (W1 w _ v3) := T2.out.next hb
  clear hb x0 x1 x2 x3 x4 x5 x6 x7 x8 z2 T2 N1
  obtain ⟨x0, x1, x2, x3, x4, x5, x6, x7, x8⟩ := T3.out.cells
  have z3 := T3.out.lt
  have hs := T3.out.steps HS.out
  simp only at x0 x1 x2 x3 x4 x5 x6 x7 x8
  go_wp2_with fail
  go_at_call 15
  refine (B1 _ hs).mono ?_
  rintro e v4 ⟨rfl, hb⟩
  have T4 : Hid (W1 w _ v4) := T3.out.next hb
  clear hb x0 x1 x2 x3 x4 x5 x6 x7 x8 z3 hs T3 B1
  have D1 := T4.out.drew
  have S1 := D1.cells
  have Q1 := D1.backs HB.out
  have R1 := D1.steps HS.out
  simp only at S1
  go_wp2_with fail
  go_region_held3 (fun v => v.cell? ⟨w.heap.size, 0, none⟩ = some (.int .i64 cw) ∧ v.cell? ⟨w.heap.size, 1, none⟩ = some (.int .i64 ch) ∧ v.cell? ⟨w.heap.size, 2, none⟩ = some (.int .i64 cl) ∧ v.cell? ⟨w.heap.size, 3, none⟩ = some (.int .i64 cd) ∧ v.cell? ⟨w.heap.size, 4, none⟩ = some (.int .i64 cr) ∧ v.cell? ⟨w.heap.size, 5, none⟩ = some (.int .i64 ci) ∧ v.cell? ⟨w.heap.size, 6, none⟩ = some (.int .i64 cb) ∧ v.cell? ⟨w.heap.size, 7, none⟩ = some (.bool we) ∧ v.cell? ⟨w.heap.size, 8, none⟩ = some (.bool ca))
    (first | exact S2 | exact S1 | go_keep)
    (first
      | (go_at_call 18; (with_reducible refine (K1 _ Q1).mono ?_); rintro e u ⟨rfl, rfl⟩)
      | (go_at_call 15; (with_reducible refine (B2 _ R1).mono ?_); rintro e u2 ⟨rfl, hb2⟩; have D2 := D1.next hb2; have S2 := D2.cells))
  have T5 : Hid (W1 w ⟨cw, ch, cl, cd, cr, ci, cb, we, ca⟩ u2) := D2
  clear D1 S1 Q1 R1 D2 S2 hb2 B2 T4
  obtain ⟨x0, x1, x2, x3, x4, x5, x6, x7, x8⟩ := T5.out.cells
  have z5 := T5.out.lt
  have hs := T5.out.steps HS.out
  simp only at x0 x1 x2 x3 x4 x5 x6 x7 x8
  go_wp2_with fail
  go_at_call 22
  refine (LK _ hs).mono ?_
  rintro e v6 ⟨al, xl, rfl, rl, hb⟩
  have T6 : Hid (W1 w _ v6) := T5.out.next hb
  clear hb x0 x1 x2 x3 x4 x5 x6 x7 x8 z5 hs T5 LK rl
  obtain ⟨x0, x1, x2, x3, x4, x5, x6, x7, x8⟩ := T6.out.cells
  have z6 := T6.out.lt
  have hk := T6.out.backs HB.out
  simp only at x0 x1 x2 x3 x4 x5 x6 x7 x8
  cases G with
  | false =>
    have e1 := HE1.out
    have e2 := HE2.out
    have e3 := HLE.out
    go_wp2_with fail
    go_at_call 18
    refine (K1 _ hk).mono ?_
    rintro e u ⟨rfl, rfl⟩
    go_wp2_with fail
    go_at_call 18
    refine (K2 _ hk).mono ?_
    rintro e u ⟨rfl, rfl⟩
    go_wp2_with fail
    go_at_call 18
    refine (K1 _ hk).mono ?_
    rintro e u ⟨rfl, rfl⟩
    go_wp2_with fail
    go_at_call 29
    refine (K3 _ hk).mono ?_
    rintro e u ⟨rfl, rfl⟩
    go_wp2
    go_ret
    exact ⟨rfl, T6.out.below⟩
  | true =>
    obtain ⟨rfl, rfl, rfl⟩ := HC1.out rfl
    go_wp2_with fail
    go_at_call 17
    refine (IS _).mono ?_
    rintro e v7 ⟨rfl, hb⟩
    have T7 : Hid (W1 w _ v7) := T6.out.next hb
    clear hb x0 x1 x2 x3 x4 x5 x6 x7 x8 z6 hk T6 IS
    obtain ⟨x0, x1, x2, x3, x4, x5, x6, x7, x8⟩ := T7.out.cells
    have z7 := T7.out.lt
    have hk := T7.out.backs HB.out
    simp only at x0 x1 x2 x3 x4 x5 x6 x7 x8
    have e1 := HE1.out
    have e2 := HE2.out
    have e3 := HLE.out
    go_wp2_with fail
    go_at_call 18
    refine (K1 _ hk).mono ?_
    rintro e u ⟨rfl, rfl⟩
    go_wp2_with fail
    go_at_call 18
    refine (K2 _ hk).mono ?_
    rintro e u ⟨rfl, rfl⟩
    go_wp2_with fail
    go_at_call 18
    refine (K1 _ hk).mono ?_
    rintro e u ⟨rfl, rfl⟩
    go_wp2_with fail
    go_at_call 29
    refine (K3 _ hk).mono ?_
    rintro e u ⟨rfl, rfl⟩
    go_wp2
    go_ret
    exact ⟨rfl, T7.out.below⟩
end Go.Proofs.YthloamdffgcabaaDoor
