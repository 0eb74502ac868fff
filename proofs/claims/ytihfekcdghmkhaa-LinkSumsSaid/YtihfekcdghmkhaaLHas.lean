/-
  The program's link: within, has, where, refusal; what only reads.
-/
import Derived.Test.YtihfekcdghmkhaaLRep
namespace Go.Proofs.Ytihfekcdghmkhaa
open Go.RowKit
open RC (Cl cc cv zc)

theorem within_any (n : Int) (m : Nat) (hm : 1 ≤ m) (w : World) : Calls Try.prog 31 #[.int .i64 n, .int .i64 (m : Int)] w fun e w' => e = .returned (.int .i64 (cl1 n m : Int)) ∧ w = w' := by
  have hc := (cl1_in n hm).2.2
  rcases (show (n ≤ 1 ∧ ((cl1 n m : Nat) : Int) = 1) ∨ (1 < n ∧ (m : Int) < n ∧ ((cl1 n m : Nat) : Int) = m) ∨ (1 < n ∧ n ≤ (m : Int) ∧ ((cl1 n m : Nat) : Int) = n) by omega) with ⟨a, e⟩ | ⟨a, b, e⟩ | ⟨a, b, e⟩ <;> rw [e] <;> clear e hc
  all_goals
    have hm1 : (1 : Int) ≤ (m : Int) := by omega
    go_enter Try.func31, Try.ntmps31
    go_wp2
    all_goals (go_ret; exact ⟨RI.ret_int (by omega), rfl⟩)
theorem has_nil (k : Int) (w : World) : Calls Try.prog 42 #[.pointer none, .int .i64 k] w fun e w' => e = .returned (.bool false) ∧ w = w' := by
  go_enter Try.func42, Try.ntmps42
  go_wp2
  go_ret
  exact ⟨rfl, rfl⟩
section
variable {w : World} {b : Nat} {S : LS} {F : Nat → Prop}
theorem lhas_any (h : Lk w b S F) (k : Int) : Calls Try.prog 42 #[.pointer (some ⟨b, 0, none⟩), .int .i64 k] w fun e w' => e = .returned (.bool (inL S k)) ∧ w = w' := by
  obtain ⟨_, q, cap, cur, bi, pi, mi, si, bw, pw, mw, sw, h, _⟩ := h
  have c2 := h.blk.cell 2
  simp only [List.getElem?_toArray, List.getElem?_cons_zero, List.getElem?_cons_succ] at c2
  unfold inL
  clear h
  generalize S.n = n at *
  rcases (show k < 0 ∨ (0 ≤ k ∧ (n : Int) ≤ k) ∨ (0 ≤ k ∧ k < (n : Int)) by omega) with a | ⟨a, a2⟩ | ⟨a, a2⟩
  · rw [decide_eq_false (by omega)]
    go_enter Try.func42, Try.ntmps42
    go_wp2
    go_ret
    exact ⟨rfl, rfl⟩
  · rw [decide_eq_false (by omega)]
    have a3 : ¬ k < (n : Int) := by omega
    go_enter Try.func42, Try.ntmps42
    go_wp2
    go_ret
    exact ⟨rfl, rfl⟩
  · rw [decide_eq_true (by omega)]
    go_enter Try.func42, Try.ntmps42
    go_wp2
    go_ret
    exact ⟨rfl, rfl⟩
/-- What is read of a lane. -/
theorem LkAt.four {q cap : Nat} {cur : Array Value} {bi pi mi : Nat} {si : RI.RingSt} {bw pw mw : Nat} {sw : RC.RingSt} (h : LkAt w b S q cap cur bi pi mi si bw pw mw sw) {p : Nat} (hp : p < S.n) :
    w.cell? ⟨q, p * 4, none⟩ = some (.int .i64 (S.cr.getD p 0)) ∧ w.cell? ⟨q, p * 4 + 1, none⟩ = some (.int .i64 (fly S.ws (p : Int) : Int)) ∧ w.cell? ⟨q, p * 4 + 2, none⟩ = some (.int .i64 (S.far.getD p 0)) ∧ w.cell? ⟨q, p * 4 + 3, none⟩ = some (.int .i64 (com S.bk (p : Int) : Int)) := by
  have H := h.lanes p hp
  refine ⟨?_, ?_, ?_, ?_⟩
  · rw [h.row.cell]; exact H 0 (by decide)
  · rw [h.row.cell]; exact H 1 (by decide)
  · rw [h.row.cell]; exact H 2 (by decide)
  · rw [h.row.cell]; exact H 3 (by decide)
abbrev f4 (a b c d : Int) : Array Value := #[.int .i64 a, .int .i64 b, .int .i64 c, .int .i64 d]
theorem where_nil (k : Int) (w : World) : Calls Try.prog 38 #[.pointer none, .int .i64 k] w fun e w' => e = .returned (.agg (f4 0 0 0 0)) ∧ Below w.heap.size w w' := by
  have B0 : Hid (Below w.heap.size w (w.alloc (.cells (f4 0 0 0 0) 70))) := (Below.refl _ _).alloc (Nat.le_refl _) _
  have N0 : Hid (Bk (w.alloc (.cells (f4 0 0 0 0) 70)) w.heap.size (f4 0 0 0 0) 70) := Bk.new _ _ _
  have HC := fun w => has_nil k w
  go_enter Try.func38, Try.ntmps38
  go_upto_region 1 with fail
  generalize w.alloc (.cells (f4 0 0 0 0) 70) = v at *
  go_wp2_with fail
  go_at_call 42
  with_reducible refine (HC _).mono ?_
  rintro e w1 ⟨rfl, rfl⟩
  have d0 := N0.out.cell 0
  have d1 := N0.out.cell 1
  have d2 := N0.out.cell 2
  have d3 := N0.out.cell 3
  have z0 := N0.out.free 0
  have z1 := N0.out.free 1
  have z2 := N0.out.free 2
  have z3 := N0.out.free 3
  simp only [f4, List.getElem?_toArray, List.getElem?_cons_zero, List.getElem?_cons_succ] at d0 d1 d2 d3
  have Y := (((N0.out.set 0 (.int .i64 0)).set 1 (.int .i64 0)).set 2 (.int .i64 0)).set 3 (.int .i64 0)
  have y0 := Y.cell 0
  have y1 := Y.cell 1
  have y2 := Y.cell 2
  have y3 := Y.cell 3
  simp [f4] at y0 y1 y2 y3
  clear N0 Y HC
  go_wp2
  refine bodyPost_ret (v := .agg (f4 0 0 0 0)) ?_ rfl ?_
  · simp [results, Try.results38, go_sem, y0, y1, y2, y3]
  · exact ⟨rfl, (((B0.out.setCell (Nat.le_refl _) _).setCell (Nat.le_refl _) _).setCell (Nat.le_refl _) _).setCell (Nat.le_refl _) _⟩
/-- Where the credits of a lane are. -/
def wh (S : LS) (k : Int) : Array Value := if inL S k = true then f4 (S.cr.getD k.toNat 0) (fly S.ws k) (S.far.getD k.toNat 0) (com S.bk k) else f4 0 0 0 0
set_option maxHeartbeats 1000000 in
theorem where_any (h : Lk w b S F) (k : Int) : Calls Try.prog 38 #[.pointer (some ⟨b, 0, none⟩), .int .i64 k] w fun e w' => e = .returned (.agg (wh S k)) ∧ Below w.heap.size w w' := by
  have B0 : Hid (Below w.heap.size w (w.alloc (.cells (f4 0 0 0 0) 70))) := (Below.refl _ _).alloc (Nat.le_refl _) _
  have N0 : Hid (Bk (w.alloc (.cells (f4 0 0 0 0) 70)) w.heap.size (f4 0 0 0 0) 70) := Bk.new _ _ _
  have h1 : Lk (w.alloc (.cells (f4 0 0 0 0) 70)) b S F := h.next B0.out
  have HC := lhas_any h1 k
  by_cases hk : inL S k = true
  · obtain ⟨p, rfl, hp⟩ := inL_nat hk
    have e1 : wh S (p : Int) = f4 (S.cr.getD p 0) (fly S.ws (p : Int)) (S.far.getD p 0) (com S.bk (p : Int)) := by unfold wh; rw [if_pos hk, Int.toNat_natCast]
    rw [e1]
    rw [hk] at HC
    obtain ⟨_, q, cap, cur, bi, pi, mi, si, bw, pw, mw, sw, hl, _⟩ := h1
    have c2 := hl.blk.cell 2
    obtain ⟨g0, g1, g2, g3⟩ := hl.four hp
    simp only [List.getElem?_toArray, List.getElem?_cons_zero, List.getElem?_cons_succ] at c2
    have i0 : (0 : Int) ≤ (p : Int) := by omega
    have i1 : (p : Int) < (S.n : Int) := by omega
    have ib : b < w.heap.size := by
      obtain ⟨_, q, cap, cur, bi, pi, mi, si, bw, pw, mw, sw, hl, _⟩ := h
      exact hl.blk.lt
    have iq : q ≠ w.heap.size := by
      rintro rfl
      have := N0.out
      obtain ⟨_, q, cap, cur, bi, pi, mi, si, bw, pw, mw, sw, hl2, _⟩ := h
      have r1 := hl2.blk.next B0.out
      have r2 := hl.blk
      unfold Bk at r1 r2
      rw [r1] at r2
      simp at r2
      have := hl2.row.lt
      omega
    clear h hl e1 hk hp
    generalize S.cr.getD p 0 = x0 at *
    generalize S.far.getD p 0 = x2 at *
    generalize ((fly S.ws (p : Int) : Nat) : Int) = x1 at *
    generalize ((com S.bk (p : Int) : Nat) : Int) = x3 at *
    generalize S.n = n at *
    go_enter Try.func38, Try.ntmps38
    go_upto_region 1 with fail
    generalize w.alloc (.cells (f4 0 0 0 0) 70) = v at *
    obtain ⟨nb, hnb⟩ : ∃ x, w.heap.size = x := ⟨_, rfl⟩
    have HB : Hid (w.heap.size = nb) := hnb
    rw [hnb] at B0 N0 ib iq ⊢
    clear hnb
    go_wp2_with fail
    go_at_call 42
    with_reducible refine HC.mono ?_
    rintro e w1 ⟨rfl, rfl⟩
    have d0 := N0.out.cell 0
    have d1 := N0.out.cell 1
    have d2 := N0.out.cell 2
    have d3 := N0.out.cell 3
    have z0 := N0.out.free 0
    have z1 := N0.out.free 1
    have z2 := N0.out.free 2
    have z3 := N0.out.free 3
    simp only [f4, List.getElem?_toArray, List.getElem?_cons_zero, List.getElem?_cons_succ] at d0 d1 d2 d3
    have Y := (((N0.out.set 0 (.int .i64 x0)).set 1 (.int .i64 x1)).set 2 (.int .i64 x2)).set 3 (.int .i64 x3)
    have y0 := Y.cell 0
    have y1 := Y.cell 1
    have y2 := Y.cell 2
    have y3 := Y.cell 3
    simp [f4] at y0 y1 y2 y3
    clear N0 Y HC
    go_wp2
    refine bodyPost_ret (v := .agg (f4 x0 x1 x2 x3)) ?_ rfl ?_
    · simp [results, Try.results38, go_sem, y0, y1, y2, y3]
    · exact ⟨rfl, by rw [HB.out]; exact (((B0.out.setCell (Nat.le_refl _) _).setCell (Nat.le_refl _) _).setCell (Nat.le_refl _) _).setCell (Nat.le_refl _) _⟩
  · have e1 : wh S k = f4 0 0 0 0 := by unfold wh; rw [if_neg hk]
    rw [e1]
    rw [Bool.eq_false_iff.2 hk] at HC
    clear h h1 hk e1
    go_enter Try.func38, Try.ntmps38
    go_upto_region 1 with fail
    generalize w.alloc (.cells (f4 0 0 0 0) 70) = v at *
    go_wp2_with fail
    go_at_call 42
    with_reducible refine HC.mono ?_
    rintro e w1 ⟨rfl, rfl⟩
    have d0 := N0.out.cell 0
    have d1 := N0.out.cell 1
    have d2 := N0.out.cell 2
    have d3 := N0.out.cell 3
    have z0 := N0.out.free 0
    have z1 := N0.out.free 1
    have z2 := N0.out.free 2
    have z3 := N0.out.free 3
    simp only [f4, List.getElem?_toArray, List.getElem?_cons_zero, List.getElem?_cons_succ] at d0 d1 d2 d3
    have Y := (((N0.out.set 0 (.int .i64 0)).set 1 (.int .i64 0)).set 2 (.int .i64 0)).set 3 (.int .i64 0)
    have y0 := Y.cell 0
    have y1 := Y.cell 1
    have y2 := Y.cell 2
    have y3 := Y.cell 3
    simp [f4] at y0 y1 y2 y3
    clear N0 Y HC
    go_wp2
    refine bodyPost_ret (v := .agg (f4 0 0 0 0)) ?_ rfl ?_
    · simp [results, Try.results38, go_sem, y0, y1, y2, y3]
    · exact ⟨rfl, (((B0.out.setCell (Nat.le_refl _) _).setCell (Nat.le_refl _) _).setCell (Nat.le_refl _) _).setCell (Nat.le_refl _) _⟩
end
end Go.Proofs.Ytihfekcdghmkhaa
