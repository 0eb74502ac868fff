/-
  The program's lane: what it keeps, as a value; what only reads.
-/
import Derived.Test.YtkigeakaedkjpaaKRep
import Derived.Test.YtkigeakaedkjpaaKRnil
namespace Go.Proofs.Ytkigeakaedkjpaa
open Go.RowKit

theorem look_nil (w : World) : Calls Try.prog 29 #[.pointer none] w fun e w' => e = .returned (.agg stn) ∧ Below w.heap.size w w' := by
  have B0 : Hid (Below w.heap.size w (w.alloc (.cells stn 69))) := (Below.refl _ _).alloc (Nat.le_refl _) _
  have N0 : Hid (Bk (w.alloc (.cells stn 69)) w.heap.size stn 69) := Bk.new _ _ _
  simp only [stn] at *
  go_enter Try.func29, Try.ntmps29
  go_upto_region 1 with fail
  generalize w.alloc (.cells #[.pointer none, .int .i64 0, .int .i64 0, .int .i64 0, .bool false] 69) = v at *
  have d0 := N0.out.cell 0
  have d1 := N0.out.cell 1
  have d2 := N0.out.cell 2
  have d3 := N0.out.cell 3
  have d4 := N0.out.cell 4
  have z0 := N0.out.free 0
  have z1 := N0.out.free 1
  have z2 := N0.out.free 2
  have z3 := N0.out.free 3
  have z4 := N0.out.free 4
  simp only [List.getElem?_toArray, List.getElem?_cons_zero, List.getElem?_cons_succ] at d0 d1 d2 d3 d4
  have Y := ((((N0.out.set 0 (.pointer none)).set 1 (.int .i64 0)).set 2 (.int .i64 0)).set 3 (.int .i64 0)).set 4 (.bool false)
  have y0 := Y.cell 0
  have y1 := Y.cell 1
  have y2 := Y.cell 2
  have y3 := Y.cell 3
  have y4 := Y.cell 4
  simp at y0 y1 y2 y3 y4
  clear N0 Y
  go_wp2
  refine bodyPost_ret (v := .agg #[.pointer none, .int .i64 0, .int .i64 0, .int .i64 0, .bool false]) ?_ rfl ?_
  · simp [results, Try.results29, go_sem, y0, y1, y2, y3, y4]
  · exact ⟨rfl, ((((B0.out.setCell (Nat.le_refl _) _).setCell (Nat.le_refl _) _).setCell (Nat.le_refl _) _).setCell (Nat.le_refl _) _).setCell (Nat.le_refl _) _⟩
theorem look_blk {w : World} {b : Nat} {p : Value} {x0 x1 x2 : Int} {x3 : Bool} (h : Bk w b #[p, .int .i64 x0, .int .i64 x1, .int .i64 x2, .bool x3] 71) (hp : ∃ r, p = .pointer (some ⟨r, 0, none⟩)) :
    Calls Try.prog 29 #[.pointer (some ⟨b, 0, none⟩)] w fun e w' => e = .returned (.agg #[p, .int .i64 x0, .int .i64 x1, .int .i64 x2, .bool x3]) ∧ Below w.heap.size w w' := by
  obtain ⟨r, rfl⟩ := hp
  have B0 : Hid (Below w.heap.size w (w.alloc (.cells stn 69))) := (Below.refl _ _).alloc (Nat.le_refl _) _
  have N0 : Hid (Bk (w.alloc (.cells stn 69)) w.heap.size stn 69) := Bk.new _ _ _
  have h1 := h.alloc (.cells stn 69)
  have hne : b ≠ w.heap.size := by have := h.lt; omega
  clear h
  simp only [stn] at *
  go_enter Try.func29, Try.ntmps29
  go_upto_region 1 with fail
  generalize w.alloc (.cells #[.pointer none, .int .i64 0, .int .i64 0, .int .i64 0, .bool false] 69) = v at *
  obtain ⟨nb, hnb⟩ : ∃ x, w.heap.size = x := ⟨_, rfl⟩
  have HB : Hid (w.heap.size = nb) := hnb
  rw [hnb] at B0 N0 hne ⊢
  clear hnb
  have c0 := h1.cell 0
  have c1 := h1.cell 1
  have c2 := h1.cell 2
  have c3 := h1.cell 3
  have c4 := h1.cell 4
  have d0 := N0.out.cell 0
  have d1 := N0.out.cell 1
  have d2 := N0.out.cell 2
  have d3 := N0.out.cell 3
  have d4 := N0.out.cell 4
  have z0 := N0.out.free 0
  have z1 := N0.out.free 1
  have z2 := N0.out.free 2
  have z3 := N0.out.free 3
  have z4 := N0.out.free 4
  simp only [List.getElem?_toArray, List.getElem?_cons_zero, List.getElem?_cons_succ] at c0 c1 c2 c3 c4 d0 d1 d2 d3 d4
  have Y := ((((N0.out.set 0 (.pointer (some ⟨r, 0, none⟩))).set 1 (.int .i64 x0)).set 2 (.int .i64 x1)).set 3 (.int .i64 x2)).set 4 (.bool x3)
  have y0 := Y.cell 0
  have y1 := Y.cell 1
  have y2 := Y.cell 2
  have y3 := Y.cell 3
  have y4 := Y.cell 4
  simp at y0 y1 y2 y3 y4
  clear N0 Y h1
  go_wp2
  refine bodyPost_ret (v := .agg #[.pointer (some ⟨r, 0, none⟩), .int .i64 x0, .int .i64 x1, .int .i64 x2, .bool x3]) ?_ rfl ?_
  · simp [results, Try.results29, go_sem, y0, y1, y2, y3, y4]
  · exact ⟨rfl, by rw [HB.out]; exact ((((B0.out.setCell (Nat.le_refl _) _).setCell (Nat.le_refl _) _).setCell (Nat.le_refl _) _).setCell (Nat.le_refl _) _).setCell (Nat.le_refl _) _⟩
set_option maxRecDepth 100000 in
theorem stField0 (p a b c d : Value) (v : World) : (Instr.field 69 (.agg #[p, a, b, c, d]) 0).run Try.prog v = .ok p v := by kernel_rfl
set_option maxRecDepth 100000 in
theorem stField1 (p a b c d : Value) (v : World) : (Instr.field 69 (.agg #[p, a, b, c, d]) 1).run Try.prog v = .ok (.agg #[a, b, c]) v := by kernel_rfl
set_option maxRecDepth 100000 in
theorem stField2 (p a b c d : Value) (v : World) : (Instr.field 69 (.agg #[p, a, b, c, d]) 2).run Try.prog v = .ok d v := by kernel_rfl
set_option maxRecDepth 100000 in
theorem paField0 (a b c : Value) (v : World) : (Instr.field 67 (.agg #[a, b, c]) 0).run Try.prog v = .ok a v := by kernel_rfl
set_option maxRecDepth 100000 in
theorem paField1 (a b c : Value) (v : World) : (Instr.field 67 (.agg #[a, b, c]) 1).run Try.prog v = .ok b v := by kernel_rfl
set_option maxRecDepth 100000 in
theorem paField2 (a b c : Value) (v : World) : (Instr.field 67 (.agg #[a, b, c]) 2).run Try.prog v = .ok c v := by kernel_rfl
end Go.Proofs.Ytkigeakaedkjpaa
