/-
  The walks of isBelow, Is, Place, At, and of the document's Is, X, Y, At.
-/
import Derived.Test.YtaohimmmhpmgdaaDoorPlain
import Derived.OwnWalk
namespace Go.Proofs.YtaohimmmhpmgdaaDoor
open Go.RowKit

/-- A draw changes nothing. -/
theorem At.drew {w v : World} {c : Cf} (h : At w c v) : At w c v.drew := by
  have b : Below (w.heap.size + 1) (w.alloc (.cells (cfc c) 29)) v := h
  exact ⟨b.os, b.tape, b.output, b.size, b.block⟩
theorem At.drewN {w v : World} {c : Cf} (h : At w c v) (n : Nat) : At w c (v.drewN n) := by
  have b : Below (w.heap.size + 1) (w.alloc (.cells (cfc c) 29)) v := h
  exact ⟨b.os, b.tape, b.output, b.size, b.block⟩

theorem isBelow_any (n l : Int) (w : World) : Calls Tryd.prog 36 #[.int .i64 n, .int .i64 l] w fun e w' => e = .returned (.bool (decide (0 ≤ n) && decide (n < l))) ∧ w = w' := by
  by_cases h0 : 0 ≤ n
  · by_cases h1 : n < l
    · rw [show (decide (0 ≤ n) && decide (n < l)) = true by simp [h0, h1]]
      go_enter Tryd.func36, Tryd.ntmps36
      go_wp2
      go_ret
      exact ⟨rfl, rfl⟩
    · rw [show (decide (0 ≤ n) && decide (n < l)) = false by simp [h1]]
      go_enter Tryd.func36, Tryd.ntmps36
      go_wp2
      go_ret
      exact ⟨rfl, rfl⟩
  · rw [show (decide (0 ≤ n) && decide (n < l)) = false by simp [h0]]
    go_enter Tryd.func36, Tryd.ntmps36
    go_wp2
    go_ret
    exact ⟨rfl, rfl⟩

theorem is_any (c : Cf) (n : Int) (w : World) : Calls Tryd.prog 29 #[cfv c, .int .i64 n] w fun e w' => e = .returned (.bool (isN c n)) ∧ Below w.heap.size w w' := by
  have K := nodes_any c
  have I := isBelow_any n (nod c)
  have A0 : Hid (At w c (w.alloc (.cells (cfc c) 29))) := At.start w c
  unfold isN
  generalize nod c = M at *
  generalize (decide (0 ≤ n) && decide (n < M)) = t at *
  obtain ⟨cw, ch, cl, cd, cr, ci, cb, we, ca⟩ := c
  simp only [cfv, cfc] at *
  go_enter Tryd.func29, Tryd.ntmps29
  go_wp2_with fail
  go_at_call 40
  refine (K _).mono ?_
  rintro e v1 ⟨rfl, hb⟩
  have HA1 : Hid (At w _ v1) := A0.out.trans hb
  clear hb K
  go_wp2_with fail
  go_at_call 36
  refine (I _).mono ?_
  rintro e v2 ⟨rfl, rfl⟩
  go_wp2
  go_ret
  exact ⟨rfl, HA1.out.below⟩

theorem place_any (c : Cf) (n : Int) (w : World) : Calls Tryd.prog 32 #[cfv c, .int .i64 n] w fun e w' => e = .returned (.tuple #[.int .i64 (plx c n), .int .i64 (ply c n), .int .i64 (ple c n)]) ∧ Below w.heap.size w w' := by
  have K := is_any c n
  have A0 : Hid (At w c (w.alloc (.cells (cfc c) 29))) := At.start w c
  cases h : isN c n with
  | true =>
    obtain ⟨hc, h0, h1⟩ := isN_ok h
    have f := fits_of hc
    have ex : (n.tmod c.w) = plx c n := by rw [Int.tmod_eq_emod_of_nonneg h0]; unfold plx; rw [if_pos h]
    have ey : (n.tdiv c.w) = ply c n := by rw [Int.tdiv_eq_ediv_of_nonneg h0]; unfold ply; rw [if_pos h]
    have ee : ple c n = 0 := by unfold ple; rw [if_pos h]
    have px := plx_in c n
    have py := ply_in c n
    have w1 := f.w1
    have w2 := f.w2
    have hn := (isN_lt h).2
    rw [ee]
    rw [h] at K
    generalize plx c n = X at *
    generalize ply c n = Y at *
    clear ee hc h1 f h
    obtain ⟨cw, ch, cl, cd, cr, ci, cb, we, ca⟩ := c
    simp only [cfv, cfc] at *
    go_enter Tryd.func32, Tryd.ntmps32
    go_wp2_with fail
    go_at_call 29
    refine (K _).mono ?_
    rintro e v1 ⟨rfl, hb⟩
    have A1 := A0.out.trans hb
    clear hb K
    obtain ⟨x0, -, -, -, -, -, -, -, -⟩ := A1.cells
    have HA1 : Hid (At w _ v1) := A1
    have BB : Hid (∀ n, Below w.heap.size w (v1.drewN n)) := fun n => (A1.drewN n).below
    clear A1
    simp only at x0
    go_wp2_with fail
    go_quiet (fail)
    go_wp2
    go_ret3
    exact ⟨rfl, by first | exact BB.out _ | exact BB.out 1 | exact HA1.out.below⟩
  | false =>
    have ex : plx c n = 0 := by unfold plx; rw [h]; rfl
    have ey : ply c n = 0 := by unfold ply; rw [h]; rfl
    have ee : ple c n = 5 := by unfold ple; rw [h]; rfl
    rw [ex, ey, ee]
    rw [h] at K
    clear ex ey ee h
    obtain ⟨cw, ch, cl, cd, cr, ci, cb, we, ca⟩ := c
    simp only [cfv, cfc] at *
    go_enter Tryd.func32, Tryd.ntmps32
    go_wp2_with fail
    go_at_call 29
    refine (K _).mono ?_
    rintro e v1 ⟨rfl, hb⟩
    have HA1 : Hid (At w _ v1) := A0.out.trans hb
    clear hb K
    go_wp2
    go_ret3
    exact ⟨rfl, HA1.out.below⟩

theorem at_any (c : Cf) (x y : Int) (w : World) : Calls Tryd.prog 37 #[cfv c, .int .i64 x, .int .i64 y] w fun e w' => e = .returned (.tuple #[.int .i64 (atn c x y), .int .i64 (ate c x y)]) ∧ Below w.heap.size w w' := by
  have K := check_any c
  have I := isBelow_any x c.w
  have J := isBelow_any y c.h
  have A0 : Hid (At w c (w.alloc (.cells (cfc c) 29))) := At.start w c
  cases h : inP c x y with
  | true =>
    obtain ⟨hc, h1, h2, h3, h4⟩ := inP_ok h
    obtain ⟨g1, g2, g3, g4⟩ := node_in h
    have f := fits_of hc
    have ea : atn c x y = y * c.w + x := by unfold atn; rw [if_pos h]
    have ee : ate c x y = 0 := by unfold ate; rw [if_pos h]
    rw [ea, ee]
    rw [hc] at K
    rw [show (decide (0 ≤ x) && decide (x < c.w)) = true by simp [h1, h2]] at I
    rw [show (decide (0 ≤ y) && decide (y < c.h)) = true by simp [h3, h4]] at J
    have hx : x ≤ 63 := by have := f.w2; omega
    have hy : y ≤ 63 := by have := f.h2; omega
    clear ea ee hc f h h2 h4 g2 g4
    obtain ⟨cw, ch, cl, cd, cr, ci, cb, we, ca⟩ := c
    simp only [cfv, cfc] at *
    obtain ⟨M, hM⟩ : ∃ M : Int, y * cw = M := ⟨_, rfl⟩
    rw [hM] at g1 g3 ⊢
    have HM : Hid (y * cw = M) := hM
    clear hM
    go_enter Tryd.func37, Tryd.ntmps37
    go_wp2_with fail
    go_at_call 42
    refine (K _).mono ?_
    rintro e v1 ⟨rfl, hb⟩
    have A1 := A0.out.trans hb
    clear hb K
    obtain ⟨x0, x1, -, -, -, -, -, -, -⟩ := A1.cells
    have HA1 : Hid (At w _ v1) := A1
    clear A1
    simp only at x0 x1
    go_wp2_with fail
    go_at_call 36
    refine (I _).mono ?_
    rintro e v2 ⟨rfl, rfl⟩
    go_wp2_with fail
    go_at_call 36
    refine (J _).mono ?_
    rintro e v2 ⟨rfl, rfl⟩
    clear I J
    have hM := HM.out
    go_wp2
    go_ret2
    exact ⟨rfl, HA1.out.below⟩
  | false =>
    have ea : atn c x y = 0 := by unfold atn; rw [h]; rfl
    have ee : ate c x y = 5 := by unfold ate; rw [h]; rfl
    rw [ea, ee]
    clear ea ee
    unfold inP at h
    have h' : chk c = 0 → (decide (0 ≤ x) && decide (x < c.w)) = true → (decide (0 ≤ y) && decide (y < c.h)) = false := fun hc hx => by
      rw [hx] at h
      simpa [hc] using h
    clear h
    rcases chk_cases c with hc | hc | hc
    · have h' := h' hc
      rw [hc] at K
      clear hc
      obtain ⟨cw, ch, cl, cd, cr, ci, cb, we, ca⟩ := c
      simp only [cfv, cfc] at *
      generalize (decide (0 ≤ x) && decide (x < cw)) = s at *
      generalize (decide (0 ≤ y) && decide (y < ch)) = t at *
      cases s with
      | true =>
        obtain rfl := h' rfl
        clear h'
        go_enter Tryd.func37, Tryd.ntmps37
        go_wp2_with fail
        go_at_call 42
        refine (K _).mono ?_
        rintro e v1 ⟨rfl, hb⟩
        have A1 := A0.out.trans hb
        clear hb K
        obtain ⟨x0, x1, -, -, -, -, -, -, -⟩ := A1.cells
        have HA1 : Hid (At w _ v1) := A1
        clear A1
        simp only at x0 x1
        go_wp2_with fail
        go_at_call 36
        refine (I _).mono ?_
        rintro e v2 ⟨rfl, rfl⟩
        go_wp2_with fail
        go_at_call 36
        refine (J _).mono ?_
        rintro e v2 ⟨rfl, rfl⟩
        clear I J
        go_wp2
        go_ret2
        exact ⟨rfl, HA1.out.below⟩
      | false =>
        clear h' J
        go_enter Tryd.func37, Tryd.ntmps37
        go_wp2_with fail
        go_at_call 42
        refine (K _).mono ?_
        rintro e v1 ⟨rfl, hb⟩
        have A1 := A0.out.trans hb
        clear hb K
        obtain ⟨x0, x1, -, -, -, -, -, -, -⟩ := A1.cells
        have HA1 : Hid (At w _ v1) := A1
        clear A1
        simp only at x0 x1
        go_wp2_with fail
        go_at_call 36
        refine (I _).mono ?_
        rintro e v2 ⟨rfl, rfl⟩
        clear I
        go_wp2
        go_ret2
        exact ⟨rfl, HA1.out.below⟩
    all_goals
      rw [hc] at K
      clear h' hc I J
      obtain ⟨cw, ch, cl, cd, cr, ci, cb, we, ca⟩ := c
      simp only [cfv, cfc] at *
      go_enter Tryd.func37, Tryd.ntmps37
      go_wp2_with fail
      go_at_call 42
      refine (K _).mono ?_
      rintro e v1 ⟨rfl, hb⟩
      have HA1 : Hid (At w _ v1) := A0.out.trans hb
      clear hb K
      go_wp2
      go_ret2
      exact ⟨rfl, HA1.out.below⟩
end Go.Proofs.YtaohimmmhpmgdaaDoor
