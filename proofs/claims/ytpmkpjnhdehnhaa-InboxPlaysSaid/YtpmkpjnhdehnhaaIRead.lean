/-
  The program's inbox: what it keeps, as a value; what only reads.
-/
import Derived.Test.YtpmkpjnhdehnhaaIRep
namespace Go.Proofs.Ytpmkpjnhdehnhaa.RP
open Go.RowKit

theorem rgnil_len (w : World) : Calls Try.prog 37 #[.pointer none] w fun e w' => e = .returned (.int .i64 0) ∧ w = w' := by
  go_enter Try.func37, Try.ntmps37
  go_wp2
  go_ret
  exact ⟨rfl, rfl⟩
theorem rgnil_room (w : World) : Calls Try.prog 32 #[.pointer none] w fun e w' => e = .returned (.int .i64 0) ∧ w = w' := by
  go_enter Try.func32, Try.ntmps32
  go_wp2
  go_ret
  exact ⟨rfl, rfl⟩
theorem rgnil_peek (w : World) : Calls Try.prog 36 #[.pointer none] w fun e w' => e = .returned (.tuple #[pkv zc, .int .i64 1]) ∧ Below w.heap.size w w' := by
  obtain ⟨q1, q2, q3⟩ := two_new w 33 #[.int .i64 0, .int .i64 0, .int .i64 0, .string ⟨#[]⟩] #[.int .i64 0, .int .i64 0, .int .i64 0, .string ⟨#[]⟩]
  have y0 := cell_of q1 0
  have y1 := cell_of q1 1
  have y2 := cell_of q1 2
  have y3 := cell_of q1 3
  have z0 := frozen_of q1 0
  have z1 := frozen_of q1 1
  have z2 := frozen_of q1 2
  have z3 := frozen_of q1 3
  have x0 := cell_of q2 0
  have x1 := cell_of q2 1
  have x2 := cell_of q2 2
  have x3 := cell_of q2 3
  simp only [List.getElem?_toArray, List.getElem?_cons_zero, List.getElem?_cons_succ] at y0 y1 y2 y3 x0 x1 x2 x3
  have B0 : Hid (Below w.heap.size w ((w.alloc (.cells #[.int .i64 0, .int .i64 0, .int .i64 0, .string ⟨#[]⟩] 33)).alloc (.cells #[.int .i64 0, .int .i64 0, .int .i64 0, .string ⟨#[]⟩] 33))) := q3
  have yy := heap_set (heap_set (heap_set (heap_set q1 0 (.int .i64 0)) 1 (.int .i64 0)) 2 (.int .i64 0)) 3 (.string ⟨#[]⟩)
  have Y0 := (cell_of yy 0).trans (by simp : _ = some (Value.int .i64 0))
  have Y1 := (cell_of yy 1).trans (by simp : _ = some (Value.int .i64 0))
  have Y2 := (cell_of yy 2).trans (by simp : _ = some (Value.int .i64 0))
  have Y3 := (cell_of yy 3).trans (by simp : _ = some (Value.string ⟨#[]⟩))
  clear q1 q2 q3 yy
  simp only [zc]
  go_enter Try.func36, Try.ntmps36
  go_upto_region 2 with fail
  generalize (w.alloc (.cells #[.int .i64 0, .int .i64 0, .int .i64 0, .string ⟨#[]⟩] 33)).alloc (.cells #[.int .i64 0, .int .i64 0, .int .i64 0, .string ⟨#[]⟩] 33) = v at *
  go_wp2
  refine bodyPost_ret (v := .tuple #[.agg #[.int .i64 0, .int .i64 0, .int .i64 0, .string ⟨#[]⟩], .int .i64 1]) (by simp [results, Try.results36, go_sem, Y0, Y1, Y2, Y3]; try rfl) rfl ⟨rfl, (((B0.out.setCell (Nat.le_refl _) _).setCell (Nat.le_refl _) _).setCell (Nat.le_refl _) _).setCell (Nat.le_refl _) _⟩
end Go.Proofs.Ytpmkpjnhdehnhaa.RP
namespace Go.Proofs.Ytpmkpjnhdehnhaa
open Go.RowKit

theorem inRange_any (n e : Int) (w : World) : Calls Try.prog 31 #[.int .i64 n, .int .i64 e] w fun x w' => x = .returned (.bool (decide (0 ≤ n) && decide (n < e))) ∧ w = w' := by
  by_cases h0 : 0 ≤ n <;> by_cases h1 : n < e <;> simp only [h0, h1, decide_true, decide_false, Bool.and_true, Bool.and_false]
  all_goals
    go_enter Try.func31, Try.ntmps31
    go_wp2
    go_ret
    exact ⟨rfl, rfl⟩
theorem ilook_nil (w : World) : Calls Try.prog 30 #[.pointer none] w fun e w' => e = .returned (.agg stz) ∧ Below w.heap.size w w' := by
  have B0 : Hid (Below w.heap.size w (w.alloc (.cells stz 67))) := (Below.refl _ _).alloc (Nat.le_refl _) _
  have N0 : Hid (Bk (w.alloc (.cells stz 67)) w.heap.size stz 67) := Bk.new _ _ _
  simp only [stz] at *
  go_enter Try.func30, Try.ntmps30
  go_upto_region 1 with fail
  generalize w.alloc (.cells #[.pointer none, .map none, .map none] 67) = v at *
  have d0 := N0.out.cell 0
  have d1 := N0.out.cell 1
  have d2 := N0.out.cell 2
  have z0 := N0.out.free 0
  have z1 := N0.out.free 1
  have z2 := N0.out.free 2
  simp only [List.getElem?_toArray, List.getElem?_cons_zero, List.getElem?_cons_succ] at d0 d1 d2
  have Y := ((N0.out.set 0 (.pointer none)).set 1 (.map none)).set 2 (.map none)
  have y0 := Y.cell 0
  have y1 := Y.cell 1
  have y2 := Y.cell 2
  simp at y0 y1 y2
  clear N0 Y
  go_wp2
  refine bodyPost_ret (v := .agg #[.pointer none, .map none, .map none]) ?_ rfl ?_
  · simp [results, Try.results30, go_sem, y0, y1, y2]
  · exact ⟨rfl, ((B0.out.setCell (Nat.le_refl _) _).setCell (Nat.le_refl _) _).setCell (Nat.le_refl _) _⟩
theorem ilook_blk {w : World} {b r mb nb : Nat} (h : Bk w b (sti r mb nb) 69) :
    Calls Try.prog 30 #[.pointer (some ⟨b, 0, none⟩)] w fun e w' => e = .returned (.agg (sti r mb nb)) ∧ Below w.heap.size w w' := by
  have B0 : Hid (Below w.heap.size w (w.alloc (.cells stz 67))) := (Below.refl _ _).alloc (Nat.le_refl _) _
  have N0 : Hid (Bk (w.alloc (.cells stz 67)) w.heap.size stz 67) := Bk.new _ _ _
  have h1 := h.alloc (.cells stz 67)
  have hne : b ≠ w.heap.size := by have := h.lt; omega
  clear h
  simp only [stz, sti] at *
  go_enter Try.func30, Try.ntmps30
  go_upto_region 1 with fail
  generalize w.alloc (.cells #[.pointer none, .map none, .map none] 67) = v at *
  obtain ⟨nb', hnb⟩ : ∃ x, w.heap.size = x := ⟨_, rfl⟩
  have HB : Hid (w.heap.size = nb') := hnb
  rw [hnb] at B0 N0 hne ⊢
  clear hnb
  have c0 := h1.cell 0
  have c1 := h1.cell 1
  have c2 := h1.cell 2
  have d0 := N0.out.cell 0
  have d1 := N0.out.cell 1
  have d2 := N0.out.cell 2
  have z0 := N0.out.free 0
  have z1 := N0.out.free 1
  have z2 := N0.out.free 2
  simp only [List.getElem?_toArray, List.getElem?_cons_zero, List.getElem?_cons_succ] at c0 c1 c2 d0 d1 d2
  have Y := ((N0.out.set 0 (.pointer (some ⟨r, 0, none⟩))).set 1 (.map (some mb))).set 2 (.map (some nb))
  have y0 := Y.cell 0
  have y1 := Y.cell 1
  have y2 := Y.cell 2
  simp at y0 y1 y2
  clear N0 Y h1
  go_wp2
  refine bodyPost_ret (v := .agg #[.pointer (some ⟨r, 0, none⟩), .map (some mb), .map (some nb)]) ?_ rfl ?_
  · simp [results, Try.results30, go_sem, y0, y1, y2]
  · exact ⟨rfl, by rw [HB.out]; exact ((B0.out.setCell (Nat.le_refl _) _).setCell (Nat.le_refl _) _).setCell (Nat.le_refl _) _⟩
/-- A part of what is kept. -/
theorem fld0 (a b c : Value) (v : World) : (Instr.field 67 (.agg #[a, b, c]) 0).run Try.prog v = .ok a v := by kernel_rfl
theorem fld1 (a b c : Value) (v : World) : (Instr.field 67 (.agg #[a, b, c]) 1).run Try.prog v = .ok b v := by kernel_rfl
theorem fld2 (a b c : Value) (v : World) : (Instr.field 67 (.agg #[a, b, c]) 2).run Try.prog v = .ok c v := by kernel_rfl
end Go.Proofs.Ytpmkpjnhdehnhaa
