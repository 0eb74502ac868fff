/-
  The table of steps, and the walk of Beside.
-/
import Derived.Test.YtaohimmmhpmgdaaDoorPlace
import Derived.Deep.RegionHeld3
namespace Go.Proofs.YtaohimmmhpmgdaaDoor
open Go.RowKit

/-- The table of steps holds what the text lays. -/
def Steps (w : World) : Prop := 2 ≤ w.heap.size ∧
  w.cell? ⟨0, 0, none⟩ = some (.int .i64 0) ∧ w.cell? ⟨0, 1, none⟩ = some (.int .i64 0) ∧ w.cell? ⟨0, 2, none⟩ = some (.int .i64 1) ∧ w.cell? ⟨0, 3, none⟩ = some (.int .i64 0) ∧
  w.cell? ⟨0, 4, none⟩ = some (.int .i64 (-1)) ∧ w.cell? ⟨0, 5, none⟩ = some (.int .i64 0) ∧ w.cell? ⟨0, 6, none⟩ = some (.int .i64 0) ∧ w.cell? ⟨0, 7, none⟩ = some (.int .i64 1) ∧
  w.cell? ⟨0, 8, none⟩ = some (.int .i64 0) ∧ w.cell? ⟨0, 9, none⟩ = some (.int .i64 (-1))
theorem Steps.below {w w' : World} {B : Nat} (h : Steps w) (hb : Below B w w') (hB : 2 ≤ B) : Steps w' := by
  have k : ∀ j, w'.cell? ⟨0, j, none⟩ = w.cell? ⟨0, j, none⟩ := fun j => hb.cell (p := ⟨0, j, none⟩) (by show 0 < B; omega)
  unfold Steps at h ⊢
  simp only [k]
  exact ⟨Nat.le_trans h.1 hb.size, h.2⟩
theorem Steps.next {w w' : World} (h : Steps w) (hb : Below w.heap.size w w') : Steps w' := h.below hb h.1
theorem At.steps {w v : World} {c : Cf} (h : At w c v) (hS : Steps w) : Steps v := hS.next h.below

theorem bs_no {c : Cf} {n p : Int} (h : isN c n = false) : bsB c n p = false ∧ bsN c n p = 0 := by
  have e : bsB c n p = false := by unfold bsB; rw [h]; rfl
  exact ⟨e, by unfold bsN; rw [e]; rfl⟩
theorem bs_nop {c : Cf} {n p : Int} (h : isP p = false) : bsB c n p = false ∧ bsN c n p = 0 := by
  have e : bsB c n p = false := by unfold bsB; rw [h]; simp
  exact ⟨e, by unfold bsN; rw [e]; rfl⟩
theorem bs_yes {c : Cf} {n p : Int} (h : isN c n = true) (hp : isP p = true) : bsN c n p = atn c (plx c n + dx p) (ply c n + dy p) ∧ bsB c n p = (ate c (plx c n + dx p) (ply c n + dy p) == 0) := by
  have e : bsB c n p = inP c (plx c n + dx p) (ply c n + dy p) := by unfold bsB; rw [h, hp]; simp
  refine ⟨by unfold bsN atn; rw [e], ?_⟩
  rw [e]
  unfold ate
  cases inP c (plx c n + dx p) (ply c n + dy p) <;> rfl
theorem pl_no {c : Cf} {n : Int} (h : isN c n = false) : plx c n = 0 ∧ ply c n = 0 ∧ ple c n = 5 := by
  unfold plx ply ple
  rw [h]
  exact ⟨rfl, rfl, rfl⟩
theorem pl_yes {c : Cf} {n : Int} (h : isN c n = true) : ple c n = 0 := by unfold ple; rw [h]; rfl

set_option maxHeartbeats 1000000 in
theorem beside_any (c : Cf) (n p : Int) (w : World) (hS : Steps w) : Calls Tryd.prog 23 #[cfv c, .int .i64 n, .int .i64 p] w fun e w' => e = .returned (.tuple #[.int .i64 (bsN c n p), .bool (bsB c n p)]) ∧ Below w.heap.size w w' := by
  have K := place_any c n
  have I := isBelow_any p 5
  change ∀ w, Calls _ _ _ _ (fun e w' => e = .returned (.bool (isP p)) ∧ _) at I
  have A0 : Hid (At w c (w.alloc (.cells (cfc c) 29))) := At.start w c
  have HS : Hid (Steps w) := hS
  clear hS
  cases h : isN c n with
  | false =>
    rw [(bs_no (p := p) h).1, (bs_no (p := p) h).2]
    rw [(pl_no h).1, (pl_no h).2.1, (pl_no h).2.2] at K
    clear I h HS
    obtain ⟨cw, ch, cl, cd, cr, ci, cb, we, ca⟩ := c
    simp only [cfv, cfc] at *
    go_enter Tryd.func23, Tryd.ntmps23
    go_wp2_with fail
    go_at_call 32
    refine (K _).mono ?_
    rintro e v1 ⟨rfl, hb⟩
    have HA1 : Hid (At w _ v1) := A0.out.trans hb
    clear hb K
    go_wp2
    go_ret2
    exact ⟨rfl, HA1.out.below⟩
  | true =>
    have px := plx_in c n
    have py := ply_in c n
    cases hp : isP p with
    | false =>
      rw [(bs_nop (c := c) (n := n) hp).1, (bs_nop (c := c) (n := n) hp).2]
      rw [pl_yes h] at K
      rw [hp] at I
      clear hp h HS
      generalize plx c n = X at *
      generalize ply c n = Y at *
      obtain ⟨cw, ch, cl, cd, cr, ci, cb, we, ca⟩ := c
      simp only [cfv, cfc] at *
      go_enter Tryd.func23, Tryd.ntmps23
      go_wp2_with fail
      go_at_call 32
      refine (K _).mono ?_
      rintro e v1 ⟨rfl, hb⟩
      have HA1 : Hid (At w _ v1) := A0.out.trans hb
      clear hb K
      go_wp2_with fail
      go_at_call 36
      refine (I _).mono ?_
      rintro e v2 ⟨rfl, rfl⟩
      go_wp2
      go_ret2
      exact ⟨rfl, HA1.out.below⟩
    | true =>
      have T := at_any c (plx c n + dx p) (ply c n + dy p)
      rw [(bs_yes h hp).1, (bs_yes h hp).2]
      rw [pl_yes h] at K
      rw [hp] at I
      have hp' := (isP_iff p).1 hp
      generalize atn c (plx c n + dx p) (ply c n + dy p) = R at *
      generalize ate c (plx c n + dx p) (ply c n + dy p) = E at *
      clear hp h
      generalize plx c n = X at *
      generalize ply c n = Y at *
      rcases hp' with rfl | rfl | rfl | rfl | rfl
      · rw [show dx 0 = 0 from rfl, show dy 0 = 0 from rfl, Int.add_zero, Int.add_zero] at T
        obtain ⟨cw, ch, cl, cd, cr, ci, cb, we, ca⟩ := c
        simp only [cfv, cfc] at *
        go_enter Tryd.func23, Tryd.ntmps23
        go_wp2_with fail
        go_at_call 32
        refine (K _).mono ?_
        rintro e v1 ⟨rfl, hb⟩
        have HA1 : Hid (At w _ v1) := A0.out.trans hb
        clear hb K
        obtain ⟨z, s0, s1, s2, s3, s4, s5, s6, s7, s8, s9⟩ := HA1.out.steps HS.out
        go_wp2_with fail
        go_at_call 36
        refine (I _).mono ?_
        rintro e v2 ⟨rfl, rfl⟩
        clear I
        obtain ⟨x0, x1, x2, x3, x4, x5, x6, x7, x8⟩ := HA1.out.cells
        have hz : w.heap.size < v1.heap.size := by have := HA1.out.size; omega
        simp only at x0 x1 x2 x3 x4 x5 x6 x7 x8
        go_wp2_with fail
        go_at_call 37
        refine (T _).mono ?_
        rintro e v3 ⟨rfl, hb⟩
        have HB : Hid (Below w.heap.size w v3) := ((HA1.out.alloc _).trans hb).below
        clear hb
        go_wp2
        go_ret2
        exact ⟨rfl, HB.out⟩
      · rw [show dx 1 = 1 from rfl, show dy 1 = 0 from rfl, Int.add_zero] at T
        obtain ⟨cw, ch, cl, cd, cr, ci, cb, we, ca⟩ := c
        simp only [cfv, cfc] at *
        go_enter Tryd.func23, Tryd.ntmps23
        go_wp2_with fail
        go_at_call 32
        refine (K _).mono ?_
        rintro e v1 ⟨rfl, hb⟩
        have HA1 : Hid (At w _ v1) := A0.out.trans hb
        clear hb K
        obtain ⟨z, s0, s1, s2, s3, s4, s5, s6, s7, s8, s9⟩ := HA1.out.steps HS.out
        go_wp2_with fail
        go_at_call 36
        refine (I _).mono ?_
        rintro e v2 ⟨rfl, rfl⟩
        clear I
        obtain ⟨x0, x1, x2, x3, x4, x5, x6, x7, x8⟩ := HA1.out.cells
        have hz : w.heap.size < v1.heap.size := by have := HA1.out.size; omega
        simp only at x0 x1 x2 x3 x4 x5 x6 x7 x8
        go_wp2_with fail
        go_at_call 37
        refine (T _).mono ?_
        rintro e v3 ⟨rfl, hb⟩
        have HB : Hid (Below w.heap.size w v3) := ((HA1.out.alloc _).trans hb).below
        clear hb
        go_wp2
        go_ret2
        exact ⟨rfl, HB.out⟩
      · rw [show dx 2 = -1 from rfl, show dy 2 = 0 from rfl, Int.add_zero] at T
        obtain ⟨cw, ch, cl, cd, cr, ci, cb, we, ca⟩ := c
        simp only [cfv, cfc] at *
        go_enter Tryd.func23, Tryd.ntmps23
        go_wp2_with fail
        go_at_call 32
        refine (K _).mono ?_
        rintro e v1 ⟨rfl, hb⟩
        have HA1 : Hid (At w _ v1) := A0.out.trans hb
        clear hb K
        obtain ⟨z, s0, s1, s2, s3, s4, s5, s6, s7, s8, s9⟩ := HA1.out.steps HS.out
        go_wp2_with fail
        go_at_call 36
        refine (I _).mono ?_
        rintro e v2 ⟨rfl, rfl⟩
        clear I
        obtain ⟨x0, x1, x2, x3, x4, x5, x6, x7, x8⟩ := HA1.out.cells
        have hz : w.heap.size < v1.heap.size := by have := HA1.out.size; omega
        simp only at x0 x1 x2 x3 x4 x5 x6 x7 x8
        go_wp2_with fail
        go_at_call 37
        refine (T _).mono ?_
        rintro e v3 ⟨rfl, hb⟩
        have HB : Hid (Below w.heap.size w v3) := ((HA1.out.alloc _).trans hb).below
        clear hb
        go_wp2
        go_ret2
        exact ⟨rfl, HB.out⟩
      · rw [show dx 3 = 0 from rfl, show dy 3 = 1 from rfl, Int.add_zero] at T
        obtain ⟨cw, ch, cl, cd, cr, ci, cb, we, ca⟩ := c
        simp only [cfv, cfc] at *
        go_enter Tryd.func23, Tryd.ntmps23
        go_wp2_with fail
        go_at_call 32
        refine (K _).mono ?_
        rintro e v1 ⟨rfl, hb⟩
        have HA1 : Hid (At w _ v1) := A0.out.trans hb
        clear hb K
        obtain ⟨z, s0, s1, s2, s3, s4, s5, s6, s7, s8, s9⟩ := HA1.out.steps HS.out
        go_wp2_with fail
        go_at_call 36
        refine (I _).mono ?_
        rintro e v2 ⟨rfl, rfl⟩
        clear I
        obtain ⟨x0, x1, x2, x3, x4, x5, x6, x7, x8⟩ := HA1.out.cells
        have hz : w.heap.size < v1.heap.size := by have := HA1.out.size; omega
        simp only at x0 x1 x2 x3 x4 x5 x6 x7 x8
        go_wp2_with fail
        go_at_call 37
        refine (T _).mono ?_
        rintro e v3 ⟨rfl, hb⟩
        have HB : Hid (Below w.heap.size w v3) := ((HA1.out.alloc _).trans hb).below
        clear hb
        go_wp2
        go_ret2
        exact ⟨rfl, HB.out⟩
      · rw [show dx 4 = 0 from rfl, show dy 4 = -1 from rfl, Int.add_zero] at T
        obtain ⟨cw, ch, cl, cd, cr, ci, cb, we, ca⟩ := c
        simp only [cfv, cfc] at *
        go_enter Tryd.func23, Tryd.ntmps23
        go_wp2_with fail
        go_at_call 32
        refine (K _).mono ?_
        rintro e v1 ⟨rfl, hb⟩
        have HA1 : Hid (At w _ v1) := A0.out.trans hb
        clear hb K
        obtain ⟨z, s0, s1, s2, s3, s4, s5, s6, s7, s8, s9⟩ := HA1.out.steps HS.out
        go_wp2_with fail
        go_at_call 36
        refine (I _).mono ?_
        rintro e v2 ⟨rfl, rfl⟩
        clear I
        obtain ⟨x0, x1, x2, x3, x4, x5, x6, x7, x8⟩ := HA1.out.cells
        have hz : w.heap.size < v1.heap.size := by have := HA1.out.size; omega
        simp only at x0 x1 x2 x3 x4 x5 x6 x7 x8
        go_wp2_with fail
        go_at_call 37
        refine (T _).mono ?_
        rintro e v3 ⟨rfl, hb⟩
        have HB : Hid (Below w.heap.size w v3) := ((HA1.out.alloc _).trans hb).below
        clear hb
        go_wp2
        go_ret2
        exact ⟨rfl, HB.out⟩
end Go.Proofs.YtaohimmmhpmgdaaDoor
