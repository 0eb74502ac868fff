/-
  The walk of SnakeLine. (Written by gen_linew.py.)
-/
import Derived.Test.YtcebfkkpclnmoaaDoorLives
import Derived.Deep.CutRange
namespace Go.Proofs.YtcebfkkpclnmoaaDoor
open Go.RowKit

set_option maxRecDepth 100000 in
set_option maxHeartbeats 2000000 in
theorem snakeLine_any (c : Cf) (a : Int) (w : World) (hS : Steps w) : Calls Tryd.prog 5 #[cfv c, .int .i64 a] w fun e w' => e = .returned (.bool true) ∧ Below w.heap.size w w' := by
  have T0 : Hid (W1 w c (w.alloc (.cells (cfc c) 23))) := W1.start _ _
  have LV := lives_any _ (T0.out.steps hS)
  have SM := fun v => small_form c v
  have HS : Hid (Steps w) := hS
  clear hS
  obtain ⟨cw, ch, cl, cd, cr, ci, cb, we, ca⟩ := c
  simp only [cfv, cfc] at *
  go_enter Tryd.func5, Tryd.ntmps5
  go_wp2_with fail
  go_at_call 10
  refine LV.mono ?_
  rintro e v1 ⟨rfl, hb⟩
  have T1 : Hid (W1 w ⟨cw, ch, cl, cd, cr, ci, cb, we, ca⟩ v1) := T0.out.next hb
  clear hb LV T0
  go_upto_region 3 with fail
  go_cut [] from 11 to 12 (fun wc => ∃ c', W1 w c' wc ∧ Fits c')
  case first =>
    obtain ⟨x0, x1, x2, x3, x4, x5, x6, x7, x8⟩ := T1.out.cells
    simp only at x0 x1 x2 x3 x4 x5 x6 x7 x8
    go_wp2_with fail
    go_at_call 24
    refine (SM _).mono ?_
    rintro e v2 ⟨dw, dh, dl, dd, dr, di, db, de, da, rfl, hb, f, f1, f2⟩
    have T2 : Hid (W1 w _ v2) := T1.out.next hb
    have HF : Hid (Fits ⟨dw, dh, dl, dd, dr, di, db, de, da⟩) := f
    clear x0 x1 x2 x3 x4 x5 x6 x7 x8 hb SM f f1 f2
    obtain ⟨x0, x1, x2, x3, x4, x5, x6, x7, x8⟩ := T2.out.cells
    simp only at x0 x1 x2 x3 x4 x5 x6 x7 x8
    obtain ⟨g0, g1, g2, g3, g4, g5, g6, g7, g8⟩ := T2.out.free
    go_wp2_with fail
    go_meet
    exact ⟨⟨dw, dh, dl, dd, dr, di, db, de, da⟩, T2.out.all ⟨dw, dh, dl, dd, dr, di, db, de, da⟩, HF.out⟩
  case rest =>
  obtain ⟨c', h2, f⟩ := hcut
  obtain ⟨v2, rfl⟩ : ∃ v2 : World, v2 = wc := ⟨_, rfl⟩
  have T2 : Hid (W1 w c' v2) := h2
  clear h2 T1 SM
  have hc := chk_fits f
  have I1 := nde_in hc a
  have N1 := node_any c' hc a
  have hm := mul_in f.w1 f.w2 f.h1 f.h2
  have hI := isN_ok I1
  have K1 := fun v => snode_any c' (nde c' a) v
  rw [pl_yes I1] at K1
  have K2 := fun v => label_any c' (lb c' (nde c' a)) v
  rw [lb_back I1, pl_yes (lb_ok I1).1] at K2
  have K3 := fun v => snode_any c' (nde c' a + 1) v
  have FA := fun v => far_any c' (lb c' (nde c' a)) (lb c' (nde c' a + 1)) v
  obtain ⟨M, hM⟩ : ∃ M, c'.w * c'.h = M := ⟨_, rfl⟩
  rw [hM] at hm hI
  have eM : IntKind.i64.wrap (c'.w * c'.h) = M := by rw [hM]; exact IntWalk.i64_in _ (by omega)
  have eL : IntKind.i64.wrap (nde c' a + 1) = nde c' a + 1 := IntWalk.i64_in _ (by omega)
  cases h1 : isN c' (nde c' a + 1) with
  | true =>
    rw [adj_far I1 h1] at FA
    rw [pl_yes h1] at K3
    have hl : nde c' a + 1 < M := by have := (isN_ok h1).2.2; omega
    clear hc f I1 hm hI h1 hM
    generalize lb c' = LB at *
    generalize nde c' a = L at *
    obtain ⟨cw', ch', cl', cd', cr', ci', cb', we', ca'⟩ := c'
    simp only [cfv, cfc] at *
    obtain ⟨x0, x1, x2, x3, x4, x5, x6, x7, x8⟩ := T2.out.cells
    simp only at x0 x1 x2 x3 x4 x5 x6 x7 x8
    go_wp2_with fail
    go_at_call 25
    refine (N1 _).mono ?_
    rintro e v3 ⟨rfl, hb⟩
    have T3 : Hid (W1 w ⟨cw', ch', cl', cd', cr', ci', cb', we', ca'⟩ v3) := T2.out.next hb
    clear hb N1 T2 x0 x1 x2 x3 x4 x5 x6 x7 x8 
    obtain ⟨x0, x1, x2, x3, x4, x5, x6, x7, x8⟩ := T3.out.cells
    simp only at x0 x1 x2 x3 x4 x5 x6 x7 x8
    go_wp2_with fail
    go_at_call 13
    refine (K1 _).mono ?_
    rintro e v4 ⟨rfl, hb⟩
    have T4 : Hid (W1 w ⟨cw', ch', cl', cd', cr', ci', cb', we', ca'⟩ v4) := T3.out.next hb
    clear hb K1 T3 x0 x1 x2 x3 x4 x5 x6 x7 x8 
    obtain ⟨x0, x1, x2, x3, x4, x5, x6, x7, x8⟩ := T4.out.cells
    simp only at x0 x1 x2 x3 x4 x5 x6 x7 x8
    go_wp2_with fail
    go_at_call 11
    refine (K2 _).mono ?_
    rintro e v5 ⟨rfl, hb⟩
    have T5 : Hid (W1 w ⟨cw', ch', cl', cd', cr', ci', cb', we', ca'⟩ v5) := T4.out.next hb
    clear hb K2 T4 x0 x1 x2 x3 x4 x5 x6 x7 x8 
    obtain ⟨x0, x1, x2, x3, x4, x5, x6, x7, x8⟩ := T5.out.cells
    simp only at x0 x1 x2 x3 x4 x5 x6 x7 x8
    go_wp2_with fail
    go_at_call 13
    refine (K3 _).mono ?_
    rintro e v6 ⟨rfl, hb⟩
    have T6 : Hid (W1 w ⟨cw', ch', cl', cd', cr', ci', cb', we', ca'⟩ v6) := T5.out.next hb
    clear hb K3 T5 x0 x1 x2 x3 x4 x5 x6 x7 x8 
    obtain ⟨x0, x1, x2, x3, x4, x5, x6, x7, x8⟩ := T6.out.cells
    simp only at x0 x1 x2 x3 x4 x5 x6 x7 x8
    go_wp2_with fail
    go_at_call 26
    refine (FA _).mono ?_
    rintro e v7 ⟨rfl, hb⟩
    have HB : Hid (Below w.heap.size w v7) := (T6.out.next hb).below
    clear hb FA T6 x0 x1 x2 x3 x4 x5 x6 x7 x8
    go_wp2
    go_ret
    exact ⟨rfl, HB.out⟩
  | false =>
    rw [(pl_no h1).2.2] at K3
    have hl : ¬ nde c' a + 1 < M := fun h => by
      have := isN_mk hc (n := nde c' a + 1) (by omega) (by omega)
      rw [h1] at this
      cases this
    clear hc f I1 hm hI h1 hM FA
    generalize lb c' = LB at *
    generalize nde c' a = L at *
    obtain ⟨cw', ch', cl', cd', cr', ci', cb', we', ca'⟩ := c'
    simp only [cfv, cfc] at *
    obtain ⟨x0, x1, x2, x3, x4, x5, x6, x7, x8⟩ := T2.out.cells
    simp only at x0 x1 x2 x3 x4 x5 x6 x7 x8
    go_wp2_with fail
    go_at_call 25
    refine (N1 _).mono ?_
    rintro e v3 ⟨rfl, hb⟩
    have T3 : Hid (W1 w ⟨cw', ch', cl', cd', cr', ci', cb', we', ca'⟩ v3) := T2.out.next hb
    clear hb N1 T2 x0 x1 x2 x3 x4 x5 x6 x7 x8 
    obtain ⟨x0, x1, x2, x3, x4, x5, x6, x7, x8⟩ := T3.out.cells
    simp only at x0 x1 x2 x3 x4 x5 x6 x7 x8
    go_wp2_with fail
    go_at_call 13
    refine (K1 _).mono ?_
    rintro e v4 ⟨rfl, hb⟩
    have T4 : Hid (W1 w ⟨cw', ch', cl', cd', cr', ci', cb', we', ca'⟩ v4) := T3.out.next hb
    clear hb K1 T3 x0 x1 x2 x3 x4 x5 x6 x7 x8 
    obtain ⟨x0, x1, x2, x3, x4, x5, x6, x7, x8⟩ := T4.out.cells
    simp only at x0 x1 x2 x3 x4 x5 x6 x7 x8
    go_wp2_with fail
    go_at_call 11
    refine (K2 _).mono ?_
    rintro e v5 ⟨rfl, hb⟩
    have T5 : Hid (W1 w ⟨cw', ch', cl', cd', cr', ci', cb', we', ca'⟩ v5) := T4.out.next hb
    clear hb K2 T4 x0 x1 x2 x3 x4 x5 x6 x7 x8 
    obtain ⟨x0, x1, x2, x3, x4, x5, x6, x7, x8⟩ := T5.out.cells
    simp only at x0 x1 x2 x3 x4 x5 x6 x7 x8
    go_wp2_with fail
    go_at_call 13
    refine (K3 _).mono ?_
    rintro e v6 ⟨rfl, hb⟩
    have T6 : Hid (W1 w ⟨cw', ch', cl', cd', cr', ci', cb', we', ca'⟩ v6) := T5.out.next hb
    clear hb K3 T5 x0 x1 x2 x3 x4 x5 x6 x7 x8 
    obtain ⟨x0, x1, x2, x3, x4, x5, x6, x7, x8⟩ := T6.out.cells
    simp only at x0 x1 x2 x3 x4 x5 x6 x7 x8
    have HB : Hid (Below w.heap.size w v6) := T6.out.below
    go_wp2
    go_ret
    exact ⟨ret_bool (by simpa using hl), HB.out⟩
end Go.Proofs.YtcebfkkpclnmoaaDoor
