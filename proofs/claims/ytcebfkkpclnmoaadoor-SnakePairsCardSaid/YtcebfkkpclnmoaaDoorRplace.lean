/-
  The walks of the document's Is, X, Y, At.
-/
import Derived.Test.YtcebfkkpclnmoaaDoorPlace
namespace Go.Proofs.YtcebfkkpclnmoaaDoor
open Go.RowKit

theorem ris_any (c : Cf) (n : Int) (w : World) : Calls Tryd.prog 30 #[cfv c, .int .i64 n] w fun e w' => e = .returned (.bool (isN c n)) ∧ Below w.heap.size w w' := by
  have K := rnodes_any c
  have A0 : Hid (At w c (w.alloc (.cells (cfc c) 23))) := At.start w c
  unfold isN
  generalize nod c = M at *
  obtain ⟨cw, ch, cl, cd, cr, ci, cb, we, ca⟩ := c
  simp only [cfv, cfc] at *
  by_cases h0 : 0 ≤ n
  · by_cases h1 : n < M
    · rw [show (decide (0 ≤ n) && decide (n < M)) = true by simp [h0, h1]]
      have d1 : decide (n < M) = true := by simp [h1]
      go_enter Tryd.func30, Tryd.ntmps30
      go_wp2_with fail
      go_at_call 33
      refine (K _).mono ?_
      rintro e v1 ⟨rfl, hb⟩
      have HA1 : Hid (At w _ v1) := A0.out.trans hb
      clear hb K
      go_wp2
      go_ret
      exact ⟨rfl, HA1.out.below⟩
    · rw [show (decide (0 ≤ n) && decide (n < M)) = false by simp [h1]]
      have d1 : decide (n < M) = false := by simp [h1]
      go_enter Tryd.func30, Tryd.ntmps30
      go_wp2_with fail
      go_at_call 33
      refine (K _).mono ?_
      rintro e v1 ⟨rfl, hb⟩
      have HA1 : Hid (At w _ v1) := A0.out.trans hb
      clear hb K
      go_wp2
      go_ret
      exact ⟨rfl, HA1.out.below⟩
  · rw [show (decide (0 ≤ n) && decide (n < M)) = false by simp [h0]]
    go_enter Tryd.func30, Tryd.ntmps30
    go_wp2
    go_ret
    exact ⟨rfl, A0.out.below⟩

theorem rx_any (c : Cf) (n : Int) (h : isN c n = true) (w : World) : Calls Tryd.prog 31 #[cfv c, .int .i64 n] w fun e w' => e = .returned (.int .i64 (plx c n)) ∧ Below w.heap.size w w' := by
  have A0 : Hid (At w c (w.alloc (.cells (cfc c) 23))) := At.start w c
  obtain ⟨hc, h0, h1⟩ := isN_ok h
  have f := fits_of hc
  have ex : (n.tmod c.w) = plx c n := by rw [Int.tmod_eq_emod_of_nonneg h0]; unfold plx; rw [if_pos h]
  have px := plx_in c n
  have w1 := f.w1
  generalize plx c n = X at *
  clear hc h1 f h
  obtain ⟨cw, ch, cl, cd, cr, ci, cb, we, ca⟩ := c
  simp only [cfv, cfc] at *
  go_enter Tryd.func31, Tryd.ntmps31
  go_wp2
  go_ret
  exact ⟨rfl, A0.out.below⟩

theorem ry_any (c : Cf) (n : Int) (h : isN c n = true) (w : World) : Calls Tryd.prog 32 #[cfv c, .int .i64 n] w fun e w' => e = .returned (.int .i64 (ply c n)) ∧ Below w.heap.size w w' := by
  have A0 : Hid (At w c (w.alloc (.cells (cfc c) 23))) := At.start w c
  obtain ⟨hc, h0, h1⟩ := isN_ok h
  have f := fits_of hc
  have ex : (n.tdiv c.w) = ply c n := by rw [Int.tdiv_eq_ediv_of_nonneg h0]; unfold ply; rw [if_pos h]
  have px := ply_in c n
  have w1 := f.w1
  have hn := (isN_lt h).2
  generalize ply c n = X at *
  clear hc h1 f h
  obtain ⟨cw, ch, cl, cd, cr, ci, cb, we, ca⟩ := c
  simp only [cfv, cfc] at *
  go_enter Tryd.func32, Tryd.ntmps32
  go_wp2
  go_ret
  exact ⟨rfl, A0.out.below⟩

theorem rat_any (c : Cf) (x y : Int) (w : World) : Calls Tryd.prog 46 #[cfv c, .int .i64 x, .int .i64 y] w fun e w' => e = .returned (.tuple #[.int .i64 (atn c x y), .int .i64 (ate c x y)]) ∧ Below w.heap.size w w' := by
  have K := rnodes_any c
  have A0 : Hid (At w c (w.alloc (.cells (cfc c) 23))) := At.start w c
  cases h : inP c x y with
  | true =>
    obtain ⟨hc, h1, h2, h3, h4⟩ := inP_ok h
    obtain ⟨g1, g2, g3, g4⟩ := node_in h
    have f := fits_of hc
    have ea : atn c x y = y * c.w + x := by unfold atn; rw [if_pos h]
    have ee : ate c x y = 0 := by unfold ate; rw [if_pos h]
    have hm := (mul_in f.w1 f.w2 f.h1 f.h2).1
    rw [← nod_of hc] at hm
    rw [ea, ee]
    have hx : x ≤ 63 := by have := f.w2; omega
    have hy : y ≤ 63 := by have := f.h2; omega
    generalize nod c = N at *
    clear ea ee hc f h g2 g4
    obtain ⟨cw, ch, cl, cd, cr, ci, cb, we, ca⟩ := c
    simp only [cfv, cfc] at *
    have d1 : decide (cw ≤ x) = false := by simp; omega
    have d2 : decide (ch ≤ y) = false := by simp; omega
    have d3 : (N == 0) = false := by simp; omega
    have d4 : decide (x < 0) = false := by simp; omega
    have d5 : decide (y < 0) = false := by simp; omega
    obtain ⟨M, hM⟩ : ∃ M : Int, y * cw = M := ⟨_, rfl⟩
    rw [hM] at g1 g3 ⊢
    have HM : Hid (y * cw = M) := hM
    clear hM
    go_enter Tryd.func46, Tryd.ntmps46
    go_wp2_with fail
    go_at_call 33
    refine (K _).mono ?_
    rintro e v1 ⟨rfl, hb⟩
    have A1 := A0.out.trans hb
    clear hb K
    obtain ⟨x0, x1, -, -, -, -, -, -, -⟩ := A1.cells
    have HA1 : Hid (At w _ v1) := A1
    clear A1
    simp only at x0 x1
    have hM := HM.out
    go_wp2
    go_ret2
    exact ⟨rfl, HA1.out.below⟩
  | false =>
    have ea : atn c x y = 0 := by unfold atn; rw [h]; rfl
    have ee : ate c x y = 5 := by unfold ate; rw [h]; rfl
    rw [ea, ee]
    clear ea ee
    by_cases hc : chk c = 0
    · have f := fits_of hc
      have hm := (mul_in f.w1 f.w2 f.h1 f.h2).1
      rw [← nod_of hc] at hm
      have h' : x < 0 ∨ 0 ≤ x ∧ c.w ≤ x ∨ 0 ≤ x ∧ x < c.w ∧ y < 0 ∨ 0 ≤ x ∧ x < c.w ∧ 0 ≤ y ∧ c.h ≤ y := by
        have : ¬ (0 ≤ x ∧ x < c.w ∧ 0 ≤ y ∧ y < c.h) := fun ⟨a1, a2, a3, a4⟩ => by
          rw [inP_mk hc a1 a2 a3 a4] at h
          cases h
        omega
      generalize nod c = N at *
      clear hc f h
      obtain ⟨cw, ch, cl, cd, cr, ci, cb, we, ca⟩ := c
      simp only [cfv, cfc] at *
      have d3 : (N == 0) = false := by simp; omega
      have H : (decide (x < 0) = true) ∨ (decide (x < 0) = false ∧ decide (cw ≤ x) = true) ∨ (decide (x < 0) = false ∧ decide (cw ≤ x) = false ∧ decide (y < 0) = true) ∨ (decide (x < 0) = false ∧ decide (cw ≤ x) = false ∧ decide (y < 0) = false ∧ decide (ch ≤ y) = true) := by
        simp only [decide_eq_true_eq, decide_eq_false_iff_not]
        omega
      clear h'
      rcases H with d4 | ⟨d4, d1⟩ | ⟨d4, d1, d5⟩ | ⟨d4, d1, d5, d2⟩
      all_goals
        go_enter Tryd.func46, Tryd.ntmps46
        go_wp2_with fail
        go_at_call 33
        refine (K _).mono ?_
        rintro e v1 ⟨rfl, hb⟩
        have A1 := A0.out.trans hb
        clear hb K
        obtain ⟨x0, x1, -, -, -, -, -, -, -⟩ := A1.cells
        have HA1 : Hid (At w _ v1) := A1
        clear A1
        simp only at x0 x1
        go_wp2
        go_ret2
        exact ⟨rfl, HA1.out.below⟩
    · rw [nod_not hc] at K
      clear hc h
      obtain ⟨cw, ch, cl, cd, cr, ci, cb, we, ca⟩ := c
      simp only [cfv, cfc] at *
      go_enter Tryd.func46, Tryd.ntmps46
      go_wp2_with fail
      go_at_call 33
      refine (K _).mono ?_
      rintro e v1 ⟨rfl, hb⟩
      have HA1 : Hid (At w _ v1) := A0.out.trans hb
      clear hb K
      go_wp2
      go_ret2
      exact ⟨rfl, HA1.out.below⟩
end Go.Proofs.YtcebfkkpclnmoaaDoor
