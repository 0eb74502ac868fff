/-
  The walk of LinkNil.
-/
import Derived.Test.YtihfekcdghmkhaaLLives
namespace Go.Proofs.Ytihfekcdghmkhaa
open Go.RowKit
open RC (Cl cc cv zc cc_len cc_at)

set_option maxRecDepth 100000 in
set_option maxHeartbeats 8000000 in
theorem step_nil (w : World) (o : Opn) : Calls Try.prog 14 #[.pointer none, ov o] w fun e w' => e = .returned (.tuple #[.agg #[.int .i64 0, .int .u64 0], .int .i64 1]) ∧ Below w.heap.size w w' := by
  have hlt := o.k_lt
  have KC := fun v => kind_any o v
  obtain ⟨n1, n2, n3⟩ := op_new w o
  have P0 : Hid (Bk _ w.heap.size (oc o).toArray 40) := n1
  have R0 : Hid (Bk _ (w.heap.size + 1) #[.int .i64 0, .int .u64 0] 35) := n2
  have B0 : Hid (Below w.heap.size w _) := n3
  clear n1 n2 n3
  generalize o.k = r at *
  obtain ⟨kd, la, wo⟩ := o
  simp only [ov, oc] at *
  go_enter Try.func14, Try.ntmps14
  go_upto_region 1 with fail
  generalize (w.alloc (.cells [Value.int .i64 kd, .int .i64 la, .int .u64 wo].toArray 40)).alloc (.cells #[.int .i64 0, .int .u64 0] 35) = v0 at *
  obtain ⟨ob, hob⟩ : ∃ x, w.heap.size = x := ⟨_, rfl⟩
  have HBW : Hid (w.heap.size = ob) := hob
  rw [hob] at P0 R0 B0 ⊢
  obtain ⟨cb, hcb⟩ : ∃ x, ob + 1 = x := ⟨_, rfl⟩
  rw [hcb] at R0 ⊢
  have hoc : ob ≤ cb := by omega
  clear hob hcb
  have d0 := P0.out.cell 0
  have d1 := P0.out.cell 1
  have d2 := P0.out.cell 2
  simp only [List.getElem?_toArray, List.getElem?_cons_zero, List.getElem?_cons_succ] at d0 d1 d2
  go_wp2_with fail
  go_at_call 24
  with_reducible refine (KC _).mono ?_
  rintro e w1 ⟨rfl, hb1⟩
  have P1 : Hid (Bk w1 ob [Value.int .i64 kd, .int .i64 la, .int .u64 wo].toArray 40) := P0.out.next hb1
  have R1 : Hid (Bk w1 cb #[.int .i64 0, .int .u64 0] 35) := R0.out.next hb1
  have B1 : Hid (Below ob w w1) := B0.out.trans (hb1.mono (Nat.le_of_lt P0.out.lt))
  clear P0 R0 B0 d0 d1 d2 KC hb1
  have d0 := P1.out.cell 0
  have d1 := P1.out.cell 1
  have d2 := P1.out.cell 2
  simp only [List.getElem?_toArray, List.getElem?_cons_zero, List.getElem?_cons_succ] at d0 d1 d2
  rcases (show r = 0 ∨ r = 1 ∨ r = 2 ∨ r = 3 by omega) with rfl | rfl | rfl | rfl
  · go_wp2_with fail
    go_at_call 30
    with_reducible refine (nil_send la wo _).mono ?_
    rintro e w2 ⟨rfl, b2⟩
    have R2 : Bk w2 cb #[.int .i64 0, .int .u64 0] 35 := R1.out.next b2
    have z0 := R2.free 0
    have z1 := R2.free 1
    have e0 := R2.cell 0
    have e1 := R2.cell 1
    simp only [List.getElem?_toArray, List.getElem?_cons_zero, List.getElem?_cons_succ] at e0 e1
    have B2 : Hid (Below ob w w2) := B1.out.trans (b2.mono (Nat.le_trans (Nat.le_of_lt P1.out.lt) (Nat.le_refl _)))
    have YY := R2.set2 (.int .i64 0) (.int .u64 0)
    have y0 := YY.cell 0
    have y1 := YY.cell 1
    simp only [List.getElem?_toArray, List.getElem?_cons_zero, List.getElem?_cons_succ] at y0 y1
    clear YY R2 b2 R1 P1 B1
    go_wp2
    refine bodyPost_ret (v := .tuple #[.agg #[.int .i64 0, .int .u64 0], .int .i64 1]) (by simp [results, Try.results14, go_sem, y0, y1]; try rfl) rfl ⟨rfl, by rw [HBW.out]; exact (B2.out.setCell hoc _).setCell hoc _⟩
  · go_wp2_with fail
    go_at_call 26
    with_reducible refine (nil_carry _).mono ?_
    rintro e w2 ⟨rfl, b2⟩
    have R2 : Bk w2 cb #[.int .i64 0, .int .u64 0] 35 := R1.out.next b2
    have z0 := R2.free 0
    have z1 := R2.free 1
    have e0 := R2.cell 0
    have e1 := R2.cell 1
    simp only [List.getElem?_toArray, List.getElem?_cons_zero, List.getElem?_cons_succ] at e0 e1
    have B2 : Hid (Below ob w w2) := B1.out.trans (b2.mono (Nat.le_trans (Nat.le_of_lt P1.out.lt) (Nat.le_refl _)))
    have YY := R2.set2 (.int .i64 0) (.int .u64 0)
    have y0 := YY.cell 0
    have y1 := YY.cell 1
    simp only [List.getElem?_toArray, List.getElem?_cons_zero, List.getElem?_cons_succ] at y0 y1
    clear YY R2 b2 R1 P1 B1
    go_wp2
    refine bodyPost_ret (v := .tuple #[.agg #[.int .i64 0, .int .u64 0], .int .i64 1]) (by simp [results, Try.results14, go_sem, y0, y1]; try rfl) rfl ⟨rfl, by rw [HBW.out]; exact (B2.out.setCell hoc _).setCell hoc _⟩
  · go_wp2_with fail
    go_at_call 27
    with_reducible refine (nil_taken la _).mono ?_
    rintro e w2 ⟨rfl, b2⟩
    have R2 : Bk w2 cb #[.int .i64 0, .int .u64 0] 35 := R1.out.next b2
    have z0 := R2.free 0
    have z1 := R2.free 1
    have e0 := R2.cell 0
    have e1 := R2.cell 1
    simp only [List.getElem?_toArray, List.getElem?_cons_zero, List.getElem?_cons_succ] at e0 e1
    have B2 : Hid (Below ob w w2) := B1.out.trans (b2.mono (Nat.le_trans (Nat.le_of_lt P1.out.lt) (Nat.le_refl _)))
    have YY := R2.set2 (.int .i64 0) (.int .u64 0)
    have y0 := YY.cell 0
    have y1 := YY.cell 1
    simp only [List.getElem?_toArray, List.getElem?_cons_zero, List.getElem?_cons_succ] at y0 y1
    clear YY R2 b2 R1 P1 B1
    go_wp2
    refine bodyPost_ret (v := .tuple #[.agg #[.int .i64 0, .int .u64 0], .int .i64 1]) (by simp [results, Try.results14, go_sem, y0, y1]; try rfl) rfl ⟨rfl, by rw [HBW.out]; exact (B2.out.setCell hoc _).setCell hoc _⟩
  · go_wp2_with fail
    go_at_call 28
    with_reducible refine (nil_credit _).mono ?_
    rintro e w2 ⟨rfl, b2⟩
    have R2 : Bk w2 cb #[.int .i64 0, .int .u64 0] 35 := R1.out.next b2
    have z0 := R2.free 0
    have z1 := R2.free 1
    have e0 := R2.cell 0
    have e1 := R2.cell 1
    simp only [List.getElem?_toArray, List.getElem?_cons_zero, List.getElem?_cons_succ] at e0 e1
    have B2 : Hid (Below ob w w2) := B1.out.trans (b2.mono (Nat.le_trans (Nat.le_of_lt P1.out.lt) (Nat.le_refl _)))
    have YY := R2.set2 (.int .i64 0) (.int .u64 0)
    have y0 := YY.cell 0
    have y1 := YY.cell 1
    simp only [List.getElem?_toArray, List.getElem?_cons_zero, List.getElem?_cons_succ] at y0 y1
    clear YY R2 b2 R1 P1 B1
    go_wp2
    refine bodyPost_ret (v := .tuple #[.agg #[.int .i64 0, .int .u64 0], .int .i64 1]) (by simp [results, Try.results14, go_sem, y0, y1]; try rfl) rfl ⟨rfl, by rw [HBW.out]; exact (B2.out.setCell hoc _).setCell hoc _⟩

set_option maxRecDepth 100000 in
set_option maxHeartbeats 8000000 in
theorem nil_law (o : Opn) (w : World) : Calls Try.prog 7 #[ov o] w fun e w' => e = .returned (.bool true) ∧ Below w.heap.size w w' := by
  have SN := fun v => step_nil v o
  obtain ⟨kd, la, wo⟩ := o
  simp only [ov] at *
  have P0 : Hid (Bk (w.alloc (.cells #[.int .i64 kd, .int .i64 la, .int .u64 wo] 40)) w.heap.size #[.int .i64 kd, .int .i64 la, .int .u64 wo] 40) := Bk.new _ _ _
  have B0 : Hid (Below w.heap.size w (w.alloc (.cells #[.int .i64 kd, .int .i64 la, .int .u64 wo] 40))) := (Below.refl _ _).alloc (Nat.le_refl _) _
  have LV := lives_any (w.alloc (.cells #[.int .i64 kd, .int .i64 la, .int .u64 wo] 40))
  go_enter Try.func7, Try.ntmps7
  go_upto_region 1 with fail
  generalize w.alloc (.cells #[.int .i64 kd, .int .i64 la, .int .u64 wo] 40) = v0 at *
  go_wp2_with fail
  go_at_call 10
  with_reducible refine LV.mono ?_
  rintro e w1 ⟨rfl, b1⟩
  obtain ⟨B, hB⟩ : ∃ B, w.heap.size = B := ⟨_, rfl⟩
  have HBW : Hid (w.heap.size = B) := hB
  rw [hB] at P0 B0
  have P1 : Hid (Bk w1 B #[.int .i64 kd, .int .i64 la, .int .u64 wo] 40) := P0.out.next b1
  have B1 : Hid (Below B w w1) := B0.out.trans (b1.mono (Nat.le_of_lt P0.out.lt))
  clear LV b1 P0 B0
  have d0 := P1.out.cell 0
  have d1 := P1.out.cell 1
  have d2 := P1.out.cell 2
  simp only [List.getElem?_toArray, List.getElem?_cons_zero, List.getElem?_cons_succ] at d0 d1 d2
  rw [hB]
  go_upto_region 5 with (go_at_call 14; refine (SN _).mono ?_; rintro e w2 ⟨rfl, b2⟩)
  have B2 : Hid (Below B w (w2.alloc (.cells #[.int .i64 0, .int .u64 0] 35))) := (B1.out.trans (b2.mono (Nat.le_of_lt P1.out.lt))).alloc (Nat.le_trans (Nat.le_of_lt P1.out.lt) b2.size) _
  have P2 : Hid (Bk (w2.alloc (.cells #[.int .i64 0, .int .u64 0] 35)) B #[.int .i64 kd, .int .i64 la, .int .u64 wo] 40) := (P1.out.next b2).alloc _
  have K2 : Hid (Bk (w2.alloc (.cells #[.int .i64 0, .int .u64 0] 35)) w2.heap.size #[.int .i64 0, .int .u64 0] 35) := Bk.new _ _ _
  clear P1 B1 d0 d1 d2 b2 SN
  generalize w2.alloc (.cells #[.int .i64 0, .int .u64 0] 35) = v2 at *
  generalize w2.heap.size = kb at *
  have c0 := K2.out.cell 0
  have c1 := K2.out.cell 1
  have d1 := P2.out.cell 1
  simp only [List.getElem?_toArray, List.getElem?_cons_zero, List.getElem?_cons_succ] at c0 c1 d1
  go_wp2_with fail
  go_at_call 23
  refine (nil_may la _).mono ?_
  rintro e w3 ⟨rfl, b3⟩
  have P3 : Hid (Bk w3 B #[.int .i64 kd, .int .i64 la, .int .u64 wo] 40) := P2.out.next b3
  have B3 : Hid (Below B w w3) := B2.out.trans (b3.mono (Nat.le_of_lt P2.out.lt))
  clear c0 c1 d1 b3 P2 B2 K2
  have d1 := P3.out.cell 1
  simp only [List.getElem?_toArray, List.getElem?_cons_zero, List.getElem?_cons_succ] at d1
  go_wp2_with fail
  go_at_call 25
  refine (nil_sum la _).mono ?_
  rintro e w4 ⟨rfl, b4⟩
  have B4 : Hid (Below B w w4) := B3.out.trans (b4.mono (Nat.le_of_lt P3.out.lt))
  have Z4 : Hid (B ≤ w4.heap.size) := Nat.le_trans (Nat.le_of_lt P3.out.lt) b4.size
  clear d1 b4 B3 P3
  go_wp2_with fail
  go_at_call 29
  refine (nil_idle _).mono ?_
  rintro e w5 ⟨rfl, b5⟩
  have B5 : Hid (Below B w w5) := B4.out.trans (b5.mono Z4.out)
  clear b5 B4 Z4
  go_wp2
  go_ret
  exact ⟨rfl, by rw [HBW.out]; exact B5.out⟩
end Go.Proofs.Ytihfekcdghmkhaa
