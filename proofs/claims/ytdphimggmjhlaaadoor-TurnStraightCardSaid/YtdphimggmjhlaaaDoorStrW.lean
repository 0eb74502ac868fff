/-
  The walk of TurnStraight.
-/
import Derived.Test.YtdphimggmjhlaaaDoorNearW
namespace Go.Proofs.YtdphimggmjhlaaaDoor
open Go.RowKit

/-- The way along x first: how long, its end, and where it turns. -/
theorem str_facts {c : Cf} {a b : Int} (ha : isN c a = true) (hb : isN c b = true) : ∃ (n j t : Nat), (str c a b).length = n ∧ j + 1 = n ∧ n ≤ 127 ∧ IntKind.i64.wrap (fr c a b + 1) = (n : Int) ∧ (str c a b).getD j 0 = 0 ∧
    ∀ i, i + 2 < n → i + 1 ≠ t → (str c a b).getD i 0 = (str c a b).getD (i + 1) 0 := by
  have h1 := str_len ha hb
  have h2 := str_le c a b
  have h3 := fr_nonneg ha hb
  obtain ⟨l, hl⟩ := str_last ha hb
  refine ⟨(str c a b).length, l.length, (strX (ox c a b)).length, rfl, by rw [hl]; simp, h2, ?_, by rw [hl]; simp, fun i hi hne => str_same ha hb i hi hne⟩
  rw [IntWalk.i64_in _ (by omega)]
  exact h1.symm

set_option maxRecDepth 100000 in
set_option maxHeartbeats 2000000 in
theorem turnStraight_any (c : Cf) (a b : Int) (w : World) (hS : Steps w) (hT : Tabs w) : Calls Tryd.prog 7 #[cfv c, .int .i64 a, .int .i64 b] w fun e w' => e = .returned (.bool true) ∧ Below w.heap.size w w' := by
  have T0 : Hid (W1 w c (w.alloc (.cells (cfc c) 23))) := W1.start _ _
  have LV := lives_any _ (T0.out.tabs hT)
  have SM := fun v => small_form c v
  have HS : Hid (Steps w) := hS
  have HT : Hid (Tabs w) := hT
  clear hS hT
  obtain ⟨cw, ch, cl, cd, cr, ci, cb, we, ca⟩ := c
  simp only [cfv, cfc] at *
  go_enter Tryd.func7, Tryd.ntmps7
  go_wp2_with fail
  go_at_call 9
  refine LV.mono ?_
  rintro e v1 ⟨rfl, hb⟩
  have T1 : Hid (W1 w ⟨cw, ch, cl, cd, cr, ci, cb, we, ca⟩ v1) := T0.out.next hb
  clear hb LV T0
  go_upto_region 3 with fail
  go_cut [] from 12 to 13 (fun wc => ∃ c', W1 w c' wc ∧ Fits c')
  case first =>
    obtain ⟨x0, x1, x2, x3, x4, x5, x6, x7, x8⟩ := T1.out.cells
    have z1 := T1.out.lt
    simp only at x0 x1 x2 x3 x4 x5 x6 x7 x8
    go_wp2_with fail
    go_at_call 19
    refine (SM _).mono ?_
    rintro e v2 ⟨dw, dh, dl, dd, dr, di, db, de, da, rfl, hb, f, f1, f2⟩
    have T2 : Hid (W1 w _ v2) := T1.out.next hb
    have HF : Hid (Fits ⟨dw, dh, dl, dd, dr, di, db, de, da⟩) := f
    clear x0 x1 x2 x3 x4 x5 x6 x7 x8 hb SM f f1 f2 z1
    obtain ⟨x0, x1, x2, x3, x4, x5, x6, x7, x8⟩ := T2.out.cells
    obtain ⟨g0, g1, g2, g3, g4, g5, g6, g7, g8⟩ := T2.out.free
    simp only at x0 x1 x2 x3 x4 x5 x6 x7 x8
    go_wp2_with fail
    go_meet
    exact ⟨⟨dw, dh, dl, dd, dr, di, db, de, da⟩, T2.out.all ⟨dw, dh, dl, dd, dr, di, db, de, da⟩, HF.out⟩
  case rest =>
  obtain ⟨c', h2, f⟩ := hcut
  obtain ⟨v2, rfl⟩ : ∃ v2 : World, v2 = wc := ⟨_, rfl⟩
  have T2 : Hid (W1 w c' v2) := h2
  clear h2 T1 SM
  have hc := chk_fits f
  have I1 := nde_in hc a
  have I2 := nde_in hc b
  have N1 := node_any c' hc a
  have N2 := node_any c' hc b
  have ST := fun v h h' => straight_any c' (nde c' a) (nde c' b) v h h'
  have FA := far_any c' (nde c' a) (nde c' b)
  obtain ⟨n, j, t, f1, f2, f3, f4, f5, f6⟩ := str_facts I1 I2
  clear hc f I1 I2
  generalize nde c' a = A at *
  generalize nde c' b = B at *
  generalize fr c' A B = D at *
  generalize str c' A B = L at *
  have Hn : Hid (L.length = n) := f1
  have HL : Hid (L.getD j 0 = 0) := f5
  have HM : Hid (∀ i, i + 2 < n → i + 1 ≠ t → L.getD i 0 = L.getD (i + 1) 0) := f6
  have ej : IntKind.i64.wrap ((n : Int) - 1) = (j : Int) := by rw [IntWalk.i64_in _ (by omega)]; omega
  clear f1 f5 f6
  obtain ⟨cw', ch', cl', cd', cr', ci', cb', we', ca'⟩ := c'
  simp only [cfv, cfc] at *
  obtain ⟨x0, x1, x2, x3, x4, x5, x6, x7, x8⟩ := T2.out.cells
  have z2 := T2.out.lt
  simp only at x0 x1 x2 x3 x4 x5 x6 x7 x8
  go_wp2_with fail
  go_at_call 20
  refine (N1 _).mono ?_
  rintro e v3 ⟨rfl, hb⟩
  have T3 : Hid (W1 w _ v3) := T2.out.next hb
  clear hb x0 x1 x2 x3 x4 x5 x6 x7 x8 z2 T2 N1
  obtain ⟨x0, x1, x2, x3, x4, x5, x6, x7, x8⟩ := T3.out.cells
  have z2 := T3.out.lt
  simp only at x0 x1 x2 x3 x4 x5 x6 x7 x8
  go_wp2_with fail
  go_at_call 20
  refine (N2 _).mono ?_
  rintro e v4 ⟨rfl, hb⟩
  have T4 : Hid (W1 w ⟨cw', ch', cl', cd', cr', ci', cb', we', ca'⟩ v4) := T3.out.next hb
  clear hb x0 x1 x2 x3 x4 x5 x6 x7 x8 z2 T3 N2
  obtain ⟨x0, x1, x2, x3, x4, x5, x6, x7, x8⟩ := T4.out.cells
  have z2 := T4.out.lt
  simp only at x0 x1 x2 x3 x4 x5 x6 x7 x8
  go_wp2_with fail
  go_at_call 17
  refine (ST _ (T4.out.steps HS.out) (T4.out.tabs HT.out)).mono ?_
  rintro e v5 h5
  obtain ⟨al, xl, rfl, _, rl, hb⟩ := h5.rd
  have T5 : Hid (W1 w ⟨cw', ch', cl', cd', cr', ci', cb', we', ca'⟩ v5) := T4.out.next hb
  rw [Hn.out]
  clear hb x0 x1 x2 x3 x4 x5 x6 x7 x8 z2 T4 h5 ST
  obtain ⟨x0, x1, x2, x3, x4, x5, x6, x7, x8⟩ := T5.out.cells
  have z2 := T5.out.lt
  simp only at x0 x1 x2 x3 x4 x5 x6 x7 x8
  go_wp2_with fail
  go_at_call 22
  refine (FA _).mono ?_
  rintro e v6 ⟨rfl, hb⟩
  have T6 : Hid (W1 w ⟨cw', ch', cl', cd', cr', ci', cb', we', ca'⟩ v6) := T5.out.next hb
  have R6 : Hid (Rd v6 al (vi L)) := rl.below hb
  have hj : (vi L)[j]? = some (.int .i64 0) := by
    have := vi_at (l := L) (k := j) (by rw [Hn.out]; omega)
    rw [this, HL.out]
  obtain ⟨g, rfl, _, c0⟩ := R6.out j _ hj
  have hj0 : (0 : Int) ≤ j := by omega
  have hj1 : (j : Int) < n := by omega
  clear hb x0 x1 x2 x3 x4 x5 x6 x7 x8 z2 T5 FA rl hj HL
  go_wp2_with fail
  clear ej hj0 hj1 c0 f4
  go_loopw [8, 9] (fun s i wr => ∃ (q : Int) (k : Nat), s = .int .i64 q ∧ i = .int .i64 k ∧ k ≤ n ∧ (q = 0 ∨ (q = 1 ∧ t ≤ k)) ∧ ∃ m, wr = v6.drewN m) (fun _ i _ => n - (RowKit.intOf i).toNat)
  case atStart => exact ⟨0, 0, rfl, rfl, Nat.zero_le _, Or.inl rfl, 0, rfl⟩
  case round =>
    obtain ⟨q, k, rfl, rfl, hk, hq, m, rfl⟩ := hrel
    by_cases hlt : k + 2 < n
    · have hltz : (k : Int) + 2 < n := by omega
      have hk0 : (0 : Int) ≤ k := by omega
      have hk1 : (k : Int) < n := by omega
      have hk2 : (k : Int) + 1 < n := by omega
      have hkn : (k : Int) ≤ 127 := by omega
      have v1 := vi_at (l := L) (k := k) (by rw [Hn.out]; omega)
      have v2 := vi_at (l := L) (k := k + 1) (by rw [Hn.out]; omega)
      obtain ⟨g1, e1, _, c1⟩ := R6.out k _ v1
      obtain ⟨g2, e2, _, c2⟩ := R6.out (k + 1) _ v2
      obtain rfl : g = g1 := by simpa using e1
      obtain rfl : g = g2 := by simpa using e2
      have HE : Hid (k + 1 ≠ t → L.getD k 0 = L.getD (k + 1) 0) := HM.out k hlt
      generalize L.getD k 0 = z0 at *
      generalize L.getD (k + 1) 0 = z1 at *
      obtain ⟨k', hk'⟩ : ∃ k', k' = k + 1 := ⟨_, rfl⟩
      have HK : Hid (k' = k + 1) := hk'
      have ek : IntKind.i64.wrap ((k : Int) + 1) = (k' : Int) := by rw [IntWalk.i64_in _ (by omega)]; omega
      have ek0 : (0 : Int) ≤ k' := by omega
      have ek1 : (k' : Int) < n := by omega
      rw [← hk'] at c2
      clear v1 v2 e1 e2 hlt hk' hk2
      by_cases hz : z0 = z1
      · subst hz
        have HQ : Hid (q = 0 ∨ (q = 1 ∧ t ≤ k)) := hq
        clear hq
        go_wp2_with fail
        go_quiet (fail)
        go_wp2
        go_roundw
        case rel => exact ⟨q, k', rfl, rfl, by omega, by have := HQ.out; have := HK.out; omega, _, rfl⟩
        case measure => have := HK.out; simp [RowKit.intOf]; omega
      · have ht : k + 1 = t := Classical.byContradiction fun h => hz (HE.out h)
        obtain rfl : q = 0 := by omega
        have b1 : (z0 == z1) = false := by simp [hz]
        have b2 : (z0 != z1) = true := by simp [hz]
        clear HE hq hz
        go_wp2_with fail
        go_quiet (fail)
        go_wp2
        go_roundw
        case rel => exact ⟨1, k', rfl, rfl, by omega, Or.inr ⟨rfl, by have := HK.out; omega⟩, _, rfl⟩
        case measure => have := HK.out; simp [RowKit.intOf]; omega
    · have hltz : ¬ (k : Int) + 2 < n := by omega
      have hkn : (k : Int) ≤ 127 := by omega
      have hk0 : (0 : Int) ≤ k := by omega
      have HB : Hid (Below w.heap.size w (v6.drewN m)) := (T6.out.drewN m).below
      rcases hq with rfl | ⟨rfl, _⟩
      all_goals
        go_wp2
        go_ret
        exact ⟨rfl, HB.out⟩
end Go.Proofs.YtdphimggmjhlaaaDoor
