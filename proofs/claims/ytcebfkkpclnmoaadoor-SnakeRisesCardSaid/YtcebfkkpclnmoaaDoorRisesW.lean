/-
  The walk of SnakeRises. (Written by gen_risesw.py.)
-/
import Derived.Test.YtcebfkkpclnmoaaDoorLives
import Derived.Test.YtcebfkkpclnmoaaDoorApp2
import Derived.Test.YtcebfkkpclnmoaaDoorGw
import Derived.Deep.CutRange
import Derived.Deep.RegionHeld3
namespace Go.Proofs.YtcebfkkpclnmoaaDoor
open Go.RowKit

/-- A way to one: how long, its ends, and its labels. -/
theorem rises_facts {c : Cf} {a b : Int} (ha : isN c a = true) (hb : isN c b = true) : ∃ (W : List Int) (n j : Nat), wys c a [b] = W ∧ W.length = n ∧ j + 1 = n ∧ n ≤ 5000 ∧ W.getD 0 0 = a ∧ W.getD j 0 = b ∧ (j : Int) ≤ max (lb c a - lb c b) (lb c b - lb c a) ∧
    ∀ i, i + 1 < n → fr c (W.getD i 0) (W.getD (i + 1) 0) = 1 ∧
      (lb c a < lb c b → ¬ lb c (W.getD (i + 1) 0) ≤ lb c (W.getD i 0) ∧ ¬ lb c (W.getD (i + 1) 0) > lb c b) ∧
      (lb c a > lb c b → ¬ lb c (W.getD (i + 1) 0) ≥ lb c (W.getD i 0) ∧ ¬ lb c (W.getD (i + 1) 0) < lb c b) := by
  have e : wys c a [b] = a :: wy c a b := by
    rw [wys_ok ha (fun n hn => by rw [List.mem_singleton] at hn; exact hn ▸ hb)]
    show a :: (wy c a b ++ []) = _
    rw [List.append_nil]
  have l1 := wy_len hb a ha
  have l2 := apt_btw c a b
  have l3 := apt_in c a b
  have hbt : btw (lb c a) (lb c b) ≤ max (lb c a - lb c b) (lb c b - lb c a) := by unfold btw; split <;> omega
  refine ⟨a :: wy c a b, (wy c a b).length + 1, (wy c a b).length, e, rfl, rfl, by omega, rfl, ?_, by omega, ?_⟩
  · have h := wy_last hb a ha 0
    rw [List.getLastD_eq_getLast?, List.getLast?_eq_getElem?] at h
    rw [List.getD_eq_getElem?_getD]
    simpa using h
  · intro i hi
    refine ⟨wy_beside hb a ha i (by rw [List.length_cons]; exact hi), ?_, ?_⟩
    · intro hlt
      have hr := wy_rises (u := true) hb a ha (Or.inr (by unfold ris; rw [if_pos rfl]; exact hlt))
      have hp := hr.1
      rw [List.pairwise_iff_getElem] at hp
      have h1 := hp i (i + 1) (by rw [List.length_cons]; omega) (by rw [List.length_cons]; omega) (by omega)
      have h2 := hr.2 _ (getD_mem (l := a :: wy c a b) (k := i + 1) (by rw [List.length_cons]; omega))
      rw [← getD_at, ← getD_at] at h1
      unfold ris at h1 h2
      simp only [if_true] at h1 h2
      refine ⟨by omega, ?_⟩
      rcases h2 with h2 | h2
      · rw [h2]; omega
      · omega
    · intro hlt
      have hr := wy_rises (u := false) hb a ha (Or.inr (by unfold ris; rw [if_neg (by decide)]; exact hlt))
      have hp := hr.1
      rw [List.pairwise_iff_getElem] at hp
      have h1 := hp i (i + 1) (by rw [List.length_cons]; omega) (by rw [List.length_cons]; omega) (by omega)
      have h2 := hr.2 _ (getD_mem (l := a :: wy c a b) (k := i + 1) (by rw [List.length_cons]; omega))
      rw [← getD_at, ← getD_at] at h1
      unfold ris at h1 h2
      simp only [Bool.false_eq_true, if_false] at h1 h2
      refine ⟨by omega, ?_⟩
      rcases h2 with h2 | h2
      · rw [h2]; omega
      · omega

set_option maxRecDepth 100000 in
set_option maxHeartbeats 4000000 in
theorem snakeRises_any (c : Cf) (a b : Int) (w : World) (hS : Steps w) : Calls Tryd.prog 6 #[cfv c, .int .i64 a, .int .i64 b] w fun e w' => e = .returned (.bool true) ∧ Below w.heap.size w w' := by
  have T0 : Hid (W1 w c (w.alloc (.cells (cfc c) 23))) := W1.start _ _
  have LV := lives_any _ (T0.out.steps hS)
  have SM := fun v => small_form c v
  have HS : Hid (Steps w) := hS
  clear hS
  obtain ⟨cw, ch, cl, cd, cr, ci, cb, we, ca⟩ := c
  simp only [cfv, cfc] at *
  go_enter Tryd.func6, Tryd.ntmps6
  go_wp2_with fail
  go_at_call 10
  refine LV.mono ?_
  rintro e v1 ⟨rfl, hb⟩
  have T1 : Hid (W1 w ⟨cw, ch, cl, cd, cr, ci, cb, we, ca⟩ v1) := T0.out.next hb
  clear hb LV T0
  go_upto_region 3 with fail
  go_cut [] from 17 to 18 (fun wc => ∃ c', W1 w c' wc ∧ Fits c')
  case first =>
    obtain ⟨x0, x1, x2, x3, x4, x5, x6, x7, x8⟩ := T1.out.cells
    simp only at x0 x1 x2 x3 x4 x5 x6 x7 x8
    go_wp2_with fail
    go_at_call 24
    refine (SM _).mono ?_
    rintro e v2 ⟨dw, dh, dl, dd, dr, di, db, de, da, rfl, hb, f, f1, f2⟩
    have T2 : Hid (W1 w _ v2) := T1.out.next hb
    have HF : Hid (Fits ⟨dw, dh, dl, dd, dr, di, db, de, da⟩) := f
    clear x0 x1 x2 x3 x4 x5 x6 x7 x8 hb SM f f1 f2
    obtain ⟨x0, x1, x2, x3, x4, x5, x6, x7, x8⟩ := T2.out.cells
    simp only at x0 x1 x2 x3 x4 x5 x6 x7 x8
    obtain ⟨g0, g1, g2, g3, g4, g5, g6, g7, g8⟩ := T2.out.free
    go_wp2_with fail
    go_meet
    exact ⟨⟨dw, dh, dl, dd, dr, di, db, de, da⟩, T2.out.all ⟨dw, dh, dl, dd, dr, di, db, de, da⟩, HF.out⟩
  case rest =>
  obtain ⟨c', h2, f⟩ := hcut
  obtain ⟨v2, rfl⟩ : ∃ v2 : World, v2 = wc := ⟨_, rfl⟩
  have T2 : Hid (W1 w c' v2) := h2
  clear h2 T1 SM
  have hc := chk_fits f
  have I1 := nde_in hc a
  have I2 := nde_in hc b
  have N1 := node_any c' hc a
  have N2 := node_any c' hc b
  have LA := fun m => label_any c' m
  have L1 := label_any c' (nde c' a)
  have L2 := label_any c' (nde c' b)
  have FA := fun x y => far_any c' x y
  obtain ⟨W, n, j, f1, f2, f3, f4, f5, f6, f7, f8⟩ := rises_facts I1 I2
  have WY : ∀ v g, Steps v → RdA v (some ⟨g, 0, none⟩) (vi [nde c' b]) → Calls Tryd.prog 22 #[cfv c', .int .i64 (nde c' a), .slice (some ⟨g, 0, none⟩) 1 1] v (Row v W) := fun v g hS h => by
    rw [← f1]
    exact way_any c' (nde c' a) (some ⟨g, 0, none⟩) [nde c' b] 1 v hS (by simp) h
  have LI := fun m => lb_in c' m
  clear hc f I1 I2 f1
  generalize nde c' a = A at *
  generalize nde c' b = B at *
  generalize lb c' = LB at *
  generalize ple c' = PE at *
  generalize fr c' = FR at *
  have la := LI A
  have lbb := LI B
  have LA1 := LA A
  have LA2 := LA B
  have eA : IntKind.i64.wrap (LB A - LB B) = LB A - LB B := IntWalk.i64_in _ (by omega)
  have eB : IntKind.i64.wrap (LB B - LB A) = LB B - LB A := IntWalk.i64_in _ (by omega)
  have ej : IntKind.i64.wrap ((n : Int) - 1) = (j : Int) := by rw [IntWalk.i64_in _ (by omega)]; omega
  have Hn : Hid (W.length = n) := f2
  have H0 : Hid (W.getD 0 0 = A) := f5
  have Hj : Hid (W.getD j 0 = B) := f6
  have Hjn : Hid (j + 1 = n) := f3
  have HM : Hid (∀ i, i + 1 < n → FR (W.getD i 0) (W.getD (i + 1) 0) = 1 ∧
      (LB A < LB B → ¬ LB (W.getD (i + 1) 0) ≤ LB (W.getD i 0) ∧ ¬ LB (W.getD (i + 1) 0) > LB B) ∧
      (LB A > LB B → ¬ LB (W.getD (i + 1) 0) ≥ LB (W.getD i 0) ∧ ¬ LB (W.getD (i + 1) 0) < LB B)) := f8
  have HLI : Hid (∀ m, 0 ≤ LB m ∧ LB m < 4096) := LI
  have hjn : (j : Int) < n := by omega
  have hj0 : (0 : Int) ≤ j := by omega
  have hn0 : (0 : Int) < n := by omega
  have hne : ((n : Int) == 0) = false := by simp; omega
  have hgt : ¬ (j : Int) > max (LB A - LB B) (LB B - LB A) := by omega
  have hAA : (A != A) = false := by simp
  have hBB : (B != B) = false := by simp
  clear f2 f3 f5 f6 f7 f8 LI L1 L2
  obtain ⟨cw', ch', cl', cd', cr', ci', cb', we', ca'⟩ := c'
  simp only [cfv, cfc] at *
  obtain ⟨x0, x1, x2, x3, x4, x5, x6, x7, x8⟩ := T2.out.cells
  simp only at x0 x1 x2 x3 x4 x5 x6 x7 x8
  go_wp2_with fail
  go_at_call 25
  refine (N1 _).mono ?_
  rintro e v3 ⟨rfl, hb⟩
  have T3 : Hid (W1 w ⟨cw', ch', cl', cd', cr', ci', cb', we', ca'⟩ v3) := T2.out.next hb
  clear hb N1 T2 x0 x1 x2 x3 x4 x5 x6 x7 x8 
  obtain ⟨x0, x1, x2, x3, x4, x5, x6, x7, x8⟩ := T3.out.cells
  simp only at x0 x1 x2 x3 x4 x5 x6 x7 x8
  go_wp2_with fail
  go_at_call 25
  refine (N2 _).mono ?_
  rintro e v4 ⟨rfl, hb⟩
  have T4 : Hid (W1 w ⟨cw', ch', cl', cd', cr', ci', cb', we', ca'⟩ v4) := T3.out.next hb
  clear hb N2 T3 x0 x1 x2 x3 x4 x5 x6 x7 x8 
  obtain ⟨x0, x1, x2, x3, x4, x5, x6, x7, x8⟩ := T4.out.cells
  simp only at x0 x1 x2 x3 x4 x5 x6 x7 x8
  go_wp2_with fail
  go_at_call 11
  refine (LA1 _).mono ?_
  rintro e v5 ⟨rfl, hb⟩
  have T5 : Hid (W1 w ⟨cw', ch', cl', cd', cr', ci', cb', we', ca'⟩ v5) := T4.out.next hb
  clear hb LA1 T4 x0 x1 x2 x3 x4 x5 x6 x7 x8 
  obtain ⟨x0, x1, x2, x3, x4, x5, x6, x7, x8⟩ := T5.out.cells
  simp only at x0 x1 x2 x3 x4 x5 x6 x7 x8
  go_wp2_with fail
  go_at_call 11
  refine (LA2 _).mono ?_
  rintro e v6 ⟨rfl, hb⟩
  have T6 : Hid (W1 w ⟨cw', ch', cl', cd', cr', ci', cb', we', ca'⟩ v6) := T5.out.next hb
  clear hb LA2 T5 x0 x1 x2 x3 x4 x5 x6 x7 x8 
  have R6 := RdA.new1 v6 B
  have b6 : Below v6.heap.size v6 (v6.alloc (.cells #[.int .i64 B] 3)) := (Below.refl _ _).alloc (Nat.le_refl _) _
  have T7 : Hid (W1 w ⟨cw', ch', cl', cd', cr', ci', cb', we', ca'⟩ (v6.alloc (.cells #[.int .i64 B] 3))) := T6.out.next b6
  obtain ⟨x0, x1, x2, x3, x4, x5, x6, x7, x8⟩ := T6.out.cells
  simp only at x0 x1 x2 x3 x4 x5 x6 x7 x8
  go_wp2_with fail
  go_at_call 22
  refine (WY _ _ (T7.out.steps HS.out) R6).mono ?_
  rintro e v7 h7
  obtain ⟨al, xl, rfl, _, rl, _, hb⟩ := h7.rd
  have T8 : Hid (W1 w ⟨cw', ch', cl', cd', cr', ci', cb', we', ca'⟩ v7) := T7.out.next hb
  rw [Hn.out]
  have q0 := vi_at (l := W) (k := 0) (by rw [Hn.out]; omega)
  have qj := vi_at (l := W) (k := j) (by rw [Hn.out]; omega)
  obtain ⟨g, rfl, hg, c0⟩ := rl 0 _ q0
  obtain ⟨g', e1, _, cj⟩ := rl j _ qj
  obtain rfl : g = g' := by simpa using e1
  rw [H0.out] at c0
  rw [Hj.out] at cj
  have R8 : Hid (Rd v7 (some ⟨g, 0, none⟩) (vi W)) := rl
  clear hb h7 R6 b6 T7 T6 WY rl q0 qj e1 x0 x1 x2 x3 x4 x5 x6 x7 x8
  go_wp2_with fail
  clear ej hn0 hne hgt hAA hBB hj0 hjn eA eB c0 cj
  go_loopw [12] (fun i wr => ∃ k : Nat, 1 ≤ k ∧ k ≤ n ∧ i = .int .i64 k ∧ W1 w ⟨cw', ch', cl', cd', cr', ci', cb', we', ca'⟩ wr ∧ Rd wr (some ⟨g, 0, none⟩) (vi W) ∧ g < wr.heap.size) (fun i _ => n - (RowKit.intOf i).toNat)
  case atStart => exact ⟨1, Nat.le_refl _, by have := Hjn.out; omega, rfl, T8.out, R8.out, hg⟩
  case round =>
    obtain ⟨k, hk1, hk, rfl, hat, hrd, hg2⟩ := hrel
    have HAT : Hid (W1 w ⟨cw', ch', cl', cd', cr', ci', cb', we', ca'⟩ wr) := hat
    have HR : Hid (Rd wr (some ⟨g, 0, none⟩) (vi W)) := hrd
    clear hat hrd hg T8 R8
    by_cases hlt : k < n
    · have hltz : (k : Int) < n := by omega
      have hk0 : (0 : Int) ≤ k := by omega
      obtain ⟨kp, hkp⟩ : ∃ kp, kp + 1 = k := ⟨k - 1, by omega⟩
      have ekp : IntKind.i64.wrap ((k : Int) - 1) = (kp : Int) := by rw [IntWalk.i64_in _ (by omega)]; omega
      have hp0 : (0 : Int) ≤ kp := by omega
      have hpn : (kp : Int) < n := by omega
      have qk := vi_at (l := W) (k := k) (by rw [Hn.out]; exact hlt)
      have qp := vi_at (l := W) (k := kp) (by rw [Hn.out]; omega)
      obtain ⟨g', e1, _, Ck⟩ := HR.out k _ qk
      obtain rfl : g = g' := by simpa using e1
      obtain ⟨g', e2, _, Ckp⟩ := HR.out kp _ qp
      obtain rfl : g = g' := by simpa using e2
      obtain ⟨m1, m2, m3⟩ := HM.out kp (by omega)
      rw [hkp] at m1 m2 m3
      have K1 := LA (W.getD kp 0)
      have K2 := LA (W.getD k 0)
      have K3 := FA (W.getD kp 0) (W.getD k 0)
      rw [m1] at K3
      have HKP : Hid (∀ v, Rd v (some ⟨g, 0, none⟩) (vi W) → v.cell? ⟨g, kp, none⟩ = some (.int .i64 (W.getD kp 0))) := fun v h => by
        obtain ⟨g', e1, _, c⟩ := h kp _ qp
        obtain rfl : g = g' := by simpa using e1
        exact c
      have HKK : Hid (∀ v, Rd v (some ⟨g, 0, none⟩) (vi W) → v.cell? ⟨g, k, none⟩ = some (.int .i64 (W.getD k 0))) := fun v h => by
        obtain ⟨g', e1, _, c⟩ := h k _ qk
        obtain rfl : g = g' := by simpa using e1
        exact c
      have hkn : (k : Int) ≤ 5000 := by omega
      clear qk qp e1 e2 m1 LA FA HM hkp hlt
      generalize W.getD kp 0 = x at *
      generalize W.getD k 0 = y at *
      have hx := HLI.out x
      have hy := HLI.out y
      clear HLI
      generalize LB A = aa at *
      generalize LB B = bb at *
      generalize LB x = xx at *
      generalize LB y = yy at *
      generalize PE x = px at *
      generalize PE y = py at *
      go_wp2_with fail
      have D1 := HAT.out.drew
      have SC : wr.drew.cell? ⟨g, kp, none⟩ = some (.int .i64 x) := Ckp
      have S1 := And.intro SC D1.cells
      have hgd : g < wr.drew.heap.size := hg2
      go_region_held3 (fun v => v.cell? ⟨g, kp, none⟩ = some (.int .i64 x) ∧ v.cell? ⟨w.heap.size, 0, none⟩ = some (.int .i64 cw') ∧ v.cell? ⟨w.heap.size, 1, none⟩ = some (.int .i64 ch') ∧ v.cell? ⟨w.heap.size, 2, none⟩ = some (.int .i64 cl') ∧ v.cell? ⟨w.heap.size, 3, none⟩ = some (.int .i64 cd') ∧ v.cell? ⟨w.heap.size, 4, none⟩ = some (.int .i64 cr') ∧ v.cell? ⟨w.heap.size, 5, none⟩ = some (.int .i64 ci') ∧ v.cell? ⟨w.heap.size, 6, none⟩ = some (.int .i64 cb') ∧ v.cell? ⟨w.heap.size, 7, none⟩ = some (.bool we') ∧ v.cell? ⟨w.heap.size, 8, none⟩ = some (.bool ca'))
        (first | exact S2 | exact S1 | go_keep)
        ((go_at_call 11; (with_reducible refine (K1 _).mono ?_); rintro e u2 ⟨rfl, hb2⟩; have D2 := D1.next hb2; have c2 := (hb2.cell (p := ⟨g, kp, none⟩) hgd).trans SC; have S2 := And.intro c2 D2.cells))
      have T9 : Hid (W1 w ⟨cw', ch', cl', cd', cr', ci', cb', we', ca'⟩ u2) := D2
      have R9 : Hid (Rd u2 (some ⟨g, 0, none⟩) (vi W)) := (HR.out.below (below_drew _)).below hb2
      have hg : g < u2.heap.size := Nat.lt_of_lt_of_le hgd hb2.size
      clear D1 SC S1 D2 c2 S2 hb2 hgd K1 HAT HR Ck Ckp
      have Ck := HKK.out _ R9.out
      go_wp2_with fail
      have D1 := T9.out.drew
      have SC : u2.drew.cell? ⟨g, k, none⟩ = some (.int .i64 y) := Ck
      have S1 := And.intro SC D1.cells
      have hgd : g < u2.drew.heap.size := hg
      go_region_held3 (fun v => v.cell? ⟨g, k, none⟩ = some (.int .i64 y) ∧ v.cell? ⟨w.heap.size, 0, none⟩ = some (.int .i64 cw') ∧ v.cell? ⟨w.heap.size, 1, none⟩ = some (.int .i64 ch') ∧ v.cell? ⟨w.heap.size, 2, none⟩ = some (.int .i64 cl') ∧ v.cell? ⟨w.heap.size, 3, none⟩ = some (.int .i64 cd') ∧ v.cell? ⟨w.heap.size, 4, none⟩ = some (.int .i64 cr') ∧ v.cell? ⟨w.heap.size, 5, none⟩ = some (.int .i64 ci') ∧ v.cell? ⟨w.heap.size, 6, none⟩ = some (.int .i64 cb') ∧ v.cell? ⟨w.heap.size, 7, none⟩ = some (.bool we') ∧ v.cell? ⟨w.heap.size, 8, none⟩ = some (.bool ca'))
        (first | exact S2 | exact S1 | go_keep)
        ((go_at_call 11; (with_reducible refine (K2 _).mono ?_); rintro e u3 ⟨rfl, hb2⟩; have D2 := D1.next hb2; have c2 := (hb2.cell (p := ⟨g, k, none⟩) hgd).trans SC; have S2 := And.intro c2 D2.cells))
      have T10 : Hid (W1 w ⟨cw', ch', cl', cd', cr', ci', cb', we', ca'⟩ u3) := D2
      have R10 : Hid (Rd u3 (some ⟨g, 0, none⟩) (vi W)) := (R9.out.below (below_drew _)).below hb2
      have hg : g < u3.heap.size := Nat.lt_of_lt_of_le hgd hb2.size
      clear D1 SC S1 D2 c2 S2 hb2 hgd K2 T9 R9 Ck
      have Ck := HKK.out _ R10.out
      have Ckp := HKP.out _ R10.out
      go_wp2_with fail
      have SC : ∀ p : Gw u3, p.v.cell? ⟨g, kp, none⟩ = some (.int .i64 x) := fun p => p.cell hg Ckp
      have SK : ∀ p : Gw u3, p.v.cell? ⟨g, k, none⟩ = some (.int .i64 y) := fun p => p.cell hg Ck
      obtain ⟨q0, q1, q2, q3, q4, q5, q6, q7, q8⟩ := T10.out.gw
      simp only at q0 q1 q2 q3 q4 q5 q6 q7 q8
      clear Ck Ckp HKP HKK
      rcases Int.lt_trichotomy aa bb with hc1 | hc1 | hc1
      · obtain ⟨n1, n2⟩ := m2 hc1
        have d0 : decide (aa < bb) = true := by simp; omega
        have d1 : decide (bb < aa) = false := by simp; omega
        have d2 : decide (yy ≤ xx) = false := by simp; omega
        have d3 : decide (bb < yy) = false := by simp; omega
        have p0 : aa < bb := hc1
        have p1 : ¬ bb < aa := by omega
        have p2 : ¬ yy ≤ xx := by omega
        have p3 : ¬ bb < yy := by omega
        clear m2 m3 n1 n2 hc1
        refine region_gw (by kernel_rfl) (by kernel_rfl) ?_
        repeat (first | go_big_quiet_skip | quiet_step ((go_at_call 26; exact quiet_below (K3 _))))
        refine wpQuiet_nil ?_
        intro u4 hw'
        obtain ⟨⟨u5, hb4⟩, hw''⟩ := hw'
        obtain rfl : u4 = u5 := hw''
        have T11 : Hid (W1 w ⟨cw', ch', cl', cd', cr', ci', cb', we', ca'⟩ u4) := T10.out.next hb4
        have R11 : Hid (Rd u4 (some ⟨g, 0, none⟩) (vi W)) := R10.out.below hb4
        have hg4 : g < u4.heap.size := Nat.lt_of_lt_of_le hg hb4.size
        clear SC SK hb4 K3 R10 T10 q0 q1 q2 q3 q4 q5 q6 q7 q8
        go_wp2
        go_roundw
        case rel => exact ⟨k + 1, by omega, by omega, by go_num, T11.out, R11.out, hg4⟩
        case measure => simp [RowKit.intOf]; omega
      · have d0 : decide (aa < bb) = false := by simp; omega
        have d1 : decide (bb < aa) = false := by simp; omega
        have p0 : ¬ aa < bb := by omega
        have p1 : ¬ bb < aa := by omega
        clear m2 m3 hc1
        refine region_gw (by kernel_rfl) (by kernel_rfl) ?_
        repeat (first | go_big_quiet_skip | quiet_step ((go_at_call 26; exact quiet_below (K3 _))))
        refine wpQuiet_nil ?_
        intro u4 hw'
        obtain ⟨⟨u5, hb4⟩, hw''⟩ := hw'
        obtain rfl : u4 = u5 := hw''
        have T11 : Hid (W1 w ⟨cw', ch', cl', cd', cr', ci', cb', we', ca'⟩ u4) := T10.out.next hb4
        have R11 : Hid (Rd u4 (some ⟨g, 0, none⟩) (vi W)) := R10.out.below hb4
        have hg4 : g < u4.heap.size := Nat.lt_of_lt_of_le hg hb4.size
        clear SC SK hb4 K3 R10 T10 q0 q1 q2 q3 q4 q5 q6 q7 q8
        go_wp2
        go_roundw
        case rel => exact ⟨k + 1, by omega, by omega, by go_num, T11.out, R11.out, hg4⟩
        case measure => simp [RowKit.intOf]; omega
      · obtain ⟨n1, n2⟩ := m3 hc1
        have d0 : decide (aa < bb) = false := by simp; omega
        have d1 : decide (bb < aa) = true := by simp; omega
        have d2 : decide (xx ≤ yy) = false := by simp; omega
        have d3 : decide (yy < bb) = false := by simp; omega
        have p0 : bb < aa := by omega
        have p1 : ¬ aa < bb := by omega
        have p2 : ¬ xx ≤ yy := by omega
        have p3 : ¬ yy < bb := by omega
        clear m2 m3 n1 n2 hc1
        refine region_gw (by kernel_rfl) (by kernel_rfl) ?_
        repeat (first | go_big_quiet_skip | quiet_step ((go_at_call 26; exact quiet_below (K3 _))))
        refine wpQuiet_nil ?_
        intro u4 hw'
        obtain ⟨⟨u5, hb4⟩, hw''⟩ := hw'
        obtain rfl : u4 = u5 := hw''
        have T11 : Hid (W1 w ⟨cw', ch', cl', cd', cr', ci', cb', we', ca'⟩ u4) := T10.out.next hb4
        have R11 : Hid (Rd u4 (some ⟨g, 0, none⟩) (vi W)) := R10.out.below hb4
        have hg4 : g < u4.heap.size := Nat.lt_of_lt_of_le hg hb4.size
        clear SC SK hb4 K3 R10 T10 q0 q1 q2 q3 q4 q5 q6 q7 q8
        go_wp2
        go_roundw
        case rel => exact ⟨k + 1, by omega, by omega, by go_num, T11.out, R11.out, hg4⟩
        case measure => simp [RowKit.intOf]; omega
    · obtain rfl : k = n := by omega
      have hltz : ¬ (k : Int) < k := by omega
      clear LA FA
      go_wp2
      go_ret
      exact ⟨rfl, HAT.out.below⟩
end Go.Proofs.YtcebfkkpclnmoaaDoor
