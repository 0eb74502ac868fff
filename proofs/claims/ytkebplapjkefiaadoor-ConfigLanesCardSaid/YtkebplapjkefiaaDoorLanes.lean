/-
  The walk of ConfigLanes.
-/
import Derived.Test.YtkebplapjkefiaaDoorLives
namespace Go.Proofs.YtkebplapjkefiaaDoor
open Go.RowKit Go.Lib

theorem cla_bad {c : Cf} (h : chk c ≠ 0) (k : Bool) : cla c k = (0, 0) := by unfold cla; rw [if_neg h]
theorem cla_ok {c : Cf} (h : chk c = 0) (k : Bool) : cla c k = (if c.ca = true then (if k = true then (c.l - 1, 1) else (0, c.l - 1)) else (if k = true then (0, 0) else (0, c.l))) := by unfold cla; rw [if_pos h]
theorem nod_bad {c : Cf} (h : chk c ≠ 0) : nod c = 0 := by unfold nod; rw [if_neg h]
theorem nod_ok {c : Cf} (h : chk c = 0) : 1 ≤ nod c := by
  unfold nod
  rw [if_pos h]
  have f := fits_of h
  exact (mul_in f.w1 f.w2 f.h1 f.h2).1

set_option maxRecDepth 100000 in
set_option maxHeartbeats 1000000 in
theorem configLanes_any (c : Cf) (w : World) (hE : Env w) : Calls Tryd.prog 6 #[cfv c] w fun e w' => e = .returned (.bool true) ∧ Below w.heap.size w w' := by
  have LV := lives_any _ (At.env (At.start w c) hE)
  have C1 := fun v => class_any c false v
  have C2 := fun v => class_any c true v
  have CK := fun v => check_any c v
  have ND := fun v => nodes_any c v
  have A_v0 : Hid (At w c (w.alloc (.cells (cfc c) 23))) := At.start w c
  clear hE
  rcases chk_cases c with h | h | h
  · have f := fits_of h
    have l1 := f.l1
    have l2 := f.l2
    have lc := f.lc
    have hn := nod_ok h
    rw [cla_ok h] at C1 C2
    rw [h] at CK
    generalize nod c = M at *
    clear h f
    obtain ⟨cw, ch, cl, cd, cr, ci, cb, we, ca⟩ := c
    simp only at l1 l2 lc C1 C2
    cases ca
    · simp only [Bool.false_eq_true, if_false, if_true] at C1 C2
      simp only [cfv, cfc] at *
      clear lc
      go_enter Tryd.func6, Tryd.ntmps6
      go_wp2_with fail
      go_at_call 8
      refine LV.mono ?_
      rintro e v1 ⟨rfl, hb⟩
      have A_v1 : Hid (At w _ v1) := A_v0.out.trans hb
      clear hb LV
      obtain ⟨x0, x1, x2, x3, x4, x5, x6, x7, x8⟩ := A_v1.out.cells
      simp only at x0 x1 x2 x3 x4 x5 x6 x7 x8
      go_wp2_with fail
      go_at_call 9
      refine (C1 _).mono ?_
      rintro e v2 ⟨rfl, hb⟩
      have A_v2 : Hid (At w _ v2) := A_v1.out.trans hb
      clear x0 x1 x2 x3 x4 x5 x6 x7 x8 hb
      obtain ⟨x0, x1, x2, x3, x4, x5, x6, x7, x8⟩ := A_v2.out.cells
      simp only at x0 x1 x2 x3 x4 x5 x6 x7 x8
      go_wp2_with fail
      go_at_call 9
      refine (C2 _).mono ?_
      rintro e v3 ⟨rfl, hb⟩
      have A_v3 : Hid (At w _ v3) := A_v2.out.trans hb
      clear x0 x1 x2 x3 x4 x5 x6 x7 x8 hb
      obtain ⟨x0, x1, x2, x3, x4, x5, x6, x7, x8⟩ := A_v3.out.cells
      simp only at x0 x1 x2 x3 x4 x5 x6 x7 x8
      go_wp2_with fail
      go_at_call 11
      refine (CK _).mono ?_
      rintro e v4 ⟨rfl, hb⟩
      have A_v4 : Hid (At w _ v4) := A_v3.out.trans hb
      clear x0 x1 x2 x3 x4 x5 x6 x7 x8 hb
      obtain ⟨x0, x1, x2, x3, x4, x5, x6, x7, x8⟩ := A_v4.out.cells
      simp only at x0 x1 x2 x3 x4 x5 x6 x7 x8
      go_wp2_with fail
      go_at_call 13
      refine (ND _).mono ?_
      rintro e v5 ⟨rfl, hb⟩
      have A_v5 : Hid (At w _ v5) := A_v4.out.trans hb
      clear x0 x1 x2 x3 x4 x5 x6 x7 x8 hb
      obtain ⟨x0, x1, x2, x3, x4, x5, x6, x7, x8⟩ := A_v5.out.cells
      simp only at x0 x1 x2 x3 x4 x5 x6 x7 x8
      clear C1 C2 CK ND
      go_wp2
      go_ret
      exact ⟨rfl, A_v5.out.below⟩
    · have l3 : 2 ≤ cl := lc rfl
      simp only [if_true, Bool.false_eq_true, if_false] at C1 C2
      simp only [cfv, cfc] at *
      clear lc
      go_enter Tryd.func6, Tryd.ntmps6
      go_wp2_with fail
      go_at_call 8
      refine LV.mono ?_
      rintro e v1 ⟨rfl, hb⟩
      have A_v1 : Hid (At w _ v1) := A_v0.out.trans hb
      clear hb LV
      obtain ⟨x0, x1, x2, x3, x4, x5, x6, x7, x8⟩ := A_v1.out.cells
      simp only at x0 x1 x2 x3 x4 x5 x6 x7 x8
      go_wp2_with fail
      go_at_call 9
      refine (C1 _).mono ?_
      rintro e v2 ⟨rfl, hb⟩
      have A_v2 : Hid (At w _ v2) := A_v1.out.trans hb
      clear x0 x1 x2 x3 x4 x5 x6 x7 x8 hb
      obtain ⟨x0, x1, x2, x3, x4, x5, x6, x7, x8⟩ := A_v2.out.cells
      simp only at x0 x1 x2 x3 x4 x5 x6 x7 x8
      go_wp2_with fail
      go_at_call 9
      refine (C2 _).mono ?_
      rintro e v3 ⟨rfl, hb⟩
      have A_v3 : Hid (At w _ v3) := A_v2.out.trans hb
      clear x0 x1 x2 x3 x4 x5 x6 x7 x8 hb
      obtain ⟨x0, x1, x2, x3, x4, x5, x6, x7, x8⟩ := A_v3.out.cells
      simp only at x0 x1 x2 x3 x4 x5 x6 x7 x8
      go_wp2_with fail
      go_at_call 11
      refine (CK _).mono ?_
      rintro e v4 ⟨rfl, hb⟩
      have A_v4 : Hid (At w _ v4) := A_v3.out.trans hb
      clear x0 x1 x2 x3 x4 x5 x6 x7 x8 hb
      obtain ⟨x0, x1, x2, x3, x4, x5, x6, x7, x8⟩ := A_v4.out.cells
      simp only at x0 x1 x2 x3 x4 x5 x6 x7 x8
      go_wp2_with fail
      go_at_call 13
      refine (ND _).mono ?_
      rintro e v5 ⟨rfl, hb⟩
      have A_v5 : Hid (At w _ v5) := A_v4.out.trans hb
      clear x0 x1 x2 x3 x4 x5 x6 x7 x8 hb
      obtain ⟨x0, x1, x2, x3, x4, x5, x6, x7, x8⟩ := A_v5.out.cells
      simp only at x0 x1 x2 x3 x4 x5 x6 x7 x8
      clear C1 C2 CK ND
      go_wp2
      go_ret
      exact ⟨rfl, A_v5.out.below⟩
  · have h0 : chk c ≠ 0 := by rw [h]; decide
    rw [cla_bad h0] at C1 C2
    rw [nod_bad h0] at ND
    rw [h] at CK
    clear h h0
    obtain ⟨cw, ch, cl, cd, cr, ci, cb, we, ca⟩ := c
    simp only [cfv, cfc] at *
    go_enter Tryd.func6, Tryd.ntmps6
    go_wp2_with fail
    go_at_call 8
    refine LV.mono ?_
    rintro e v1 ⟨rfl, hb⟩
    have A_v1 : Hid (At w _ v1) := A_v0.out.trans hb
    clear hb LV
    obtain ⟨x0, x1, x2, x3, x4, x5, x6, x7, x8⟩ := A_v1.out.cells
    simp only at x0 x1 x2 x3 x4 x5 x6 x7 x8
    go_wp2_with fail
    go_at_call 9
    refine (C1 _).mono ?_
    rintro e v2 ⟨rfl, hb⟩
    have A_v2 : Hid (At w _ v2) := A_v1.out.trans hb
    clear x0 x1 x2 x3 x4 x5 x6 x7 x8 hb
    obtain ⟨x0, x1, x2, x3, x4, x5, x6, x7, x8⟩ := A_v2.out.cells
    simp only at x0 x1 x2 x3 x4 x5 x6 x7 x8
    go_wp2_with fail
    go_at_call 9
    refine (C2 _).mono ?_
    rintro e v3 ⟨rfl, hb⟩
    have A_v3 : Hid (At w _ v3) := A_v2.out.trans hb
    clear x0 x1 x2 x3 x4 x5 x6 x7 x8 hb
    obtain ⟨x0, x1, x2, x3, x4, x5, x6, x7, x8⟩ := A_v3.out.cells
    simp only at x0 x1 x2 x3 x4 x5 x6 x7 x8
    go_wp2_with fail
    go_at_call 11
    refine (CK _).mono ?_
    rintro e v4 ⟨rfl, hb⟩
    have A_v4 : Hid (At w _ v4) := A_v3.out.trans hb
    clear x0 x1 x2 x3 x4 x5 x6 x7 x8 hb
    obtain ⟨x0, x1, x2, x3, x4, x5, x6, x7, x8⟩ := A_v4.out.cells
    simp only at x0 x1 x2 x3 x4 x5 x6 x7 x8
    go_wp2_with fail
    go_at_call 13
    refine (ND _).mono ?_
    rintro e v5 ⟨rfl, hb⟩
    have A_v5 : Hid (At w _ v5) := A_v4.out.trans hb
    clear x0 x1 x2 x3 x4 x5 x6 x7 x8 hb
    obtain ⟨x0, x1, x2, x3, x4, x5, x6, x7, x8⟩ := A_v5.out.cells
    simp only at x0 x1 x2 x3 x4 x5 x6 x7 x8
    clear C1 C2 CK ND
    go_wp2
    go_ret
    exact ⟨rfl, A_v5.out.below⟩
  · have h0 : chk c ≠ 0 := by rw [h]; decide
    rw [cla_bad h0] at C1 C2
    rw [nod_bad h0] at ND
    rw [h] at CK
    clear h h0
    obtain ⟨cw, ch, cl, cd, cr, ci, cb, we, ca⟩ := c
    simp only [cfv, cfc] at *
    go_enter Tryd.func6, Tryd.ntmps6
    go_wp2_with fail
    go_at_call 8
    refine LV.mono ?_
    rintro e v1 ⟨rfl, hb⟩
    have A_v1 : Hid (At w _ v1) := A_v0.out.trans hb
    clear hb LV
    obtain ⟨x0, x1, x2, x3, x4, x5, x6, x7, x8⟩ := A_v1.out.cells
    simp only at x0 x1 x2 x3 x4 x5 x6 x7 x8
    go_wp2_with fail
    go_at_call 9
    refine (C1 _).mono ?_
    rintro e v2 ⟨rfl, hb⟩
    have A_v2 : Hid (At w _ v2) := A_v1.out.trans hb
    clear x0 x1 x2 x3 x4 x5 x6 x7 x8 hb
    obtain ⟨x0, x1, x2, x3, x4, x5, x6, x7, x8⟩ := A_v2.out.cells
    simp only at x0 x1 x2 x3 x4 x5 x6 x7 x8
    go_wp2_with fail
    go_at_call 9
    refine (C2 _).mono ?_
    rintro e v3 ⟨rfl, hb⟩
    have A_v3 : Hid (At w _ v3) := A_v2.out.trans hb
    clear x0 x1 x2 x3 x4 x5 x6 x7 x8 hb
    obtain ⟨x0, x1, x2, x3, x4, x5, x6, x7, x8⟩ := A_v3.out.cells
    simp only at x0 x1 x2 x3 x4 x5 x6 x7 x8
    go_wp2_with fail
    go_at_call 11
    refine (CK _).mono ?_
    rintro e v4 ⟨rfl, hb⟩
    have A_v4 : Hid (At w _ v4) := A_v3.out.trans hb
    clear x0 x1 x2 x3 x4 x5 x6 x7 x8 hb
    obtain ⟨x0, x1, x2, x3, x4, x5, x6, x7, x8⟩ := A_v4.out.cells
    simp only at x0 x1 x2 x3 x4 x5 x6 x7 x8
    go_wp2_with fail
    go_at_call 13
    refine (ND _).mono ?_
    rintro e v5 ⟨rfl, hb⟩
    have A_v5 : Hid (At w _ v5) := A_v4.out.trans hb
    clear x0 x1 x2 x3 x4 x5 x6 x7 x8 hb
    obtain ⟨x0, x1, x2, x3, x4, x5, x6, x7, x8⟩ := A_v5.out.cells
    simp only at x0 x1 x2 x3 x4 x5 x6 x7 x8
    clear C1 C2 CK ND
    go_wp2
    go_ret
    exact ⟨rfl, A_v5.out.below⟩
end Go.Proofs.YtkebplapjkefiaaDoor
