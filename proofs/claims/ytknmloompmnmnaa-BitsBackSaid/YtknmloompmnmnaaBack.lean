/-
  The walk of BitsBack.
-/
import Derived.Test.YtknmloompmnmnaaApart
namespace Go.Proofs.Ytknmloompmnmnaa
open Go.RowKit

set_option maxHeartbeats 1600000 in
theorem bitsBack_no (w : World) (W v : Nat) (a0 a1 a2 a3 : Int) (hW : W < 18446744073709551616) (hv : v < 4294967296) (hno : (putR W a0 a1 v).2 ≠ 0) :
    Calls Try.prog 7 #[.int .u64 W, .agg #[.int .i64 a0, .int .i64 a1, .int .i64 a2, .int .i64 a3], .int .u32 v] w fun e w' => e = .returned (.bool true) ∧ Below w.heap.size w w' := by
  have b0 : Below w.heap.size w (w.alloc (.cells #[.int .i64 a0, .int .i64 a1, .int .i64 a2, .int .i64 a3] 46)) := (Below.refl _ _).alloc (Nat.le_refl _) _
  have V := lives_any (w.alloc (.cells #[.int .i64 a0, .int .i64 a1, .int .i64 a2, .int .i64 a3] 46))
  have c0 : ∀ j, (w.alloc (.cells #[.int .i64 a0, .int .i64 a1, .int .i64 a2, .int .i64 a3] 46)).cell? ⟨w.heap.size, j, none⟩ = #[Value.int .i64 a0, .int .i64 a1, .int .i64 a2, .int .i64 a3][j]? := fun j => World.cell?_alloc_at _ _ _ _ rfl
  rw [show (w.alloc (.cells #[.int .i64 a0, .int .i64 a1, .int .i64 a2, .int .i64 a3] 46)).heap.size = w.heap.size + 1 by simp] at V
  have B0 : Hid (Below w.heap.size w (w.alloc (.cells #[.int .i64 a0, .int .i64 a1, .int .i64 a2, .int .i64 a3] 46))) := b0
  have C0 : Hid (∀ j, (w.alloc (.cells #[.int .i64 a0, .int .i64 a1, .int .i64 a2, .int .i64 a3] 46)).cell? ⟨w.heap.size, j, none⟩ = #[Value.int .i64 a0, .int .i64 a1, .int .i64 a2, .int .i64 a3][j]?) := c0
  have P1 := fun w => put_any W a0 a1 v hW hv w
  have two := putR_two W a0 a1 v
  clear b0 c0
  generalize putR W a0 a1 v = x1 at *
  obtain ⟨x1, e1⟩ := x1
  simp only at P1 two hno
  have hx : x1 = 0 := by
    rcases two with c | c
    · exact absurd c hno
    · exact c.1
  subst hx
  rw [show ((0 : Nat) : Int) = 0 from rfl] at P1
  have t1 : (e1 == 0) = false := by simpa using hno
  have t2 : (e1 != 0) = true := by simpa using hno
  clear hno two
  go_enter Try.func7, Try.ntmps7
  go_wp2_with fail
  go_at_call 9
  refine V.mono ?_
  rintro e w1 ⟨rfl, hb1⟩
  have d0 : w1.cell? ⟨w.heap.size, 0, none⟩ = some (.int .i64 a0) := cells_below hb1 (by omega) 0 (C0.out 0)
  have d1 : w1.cell? ⟨w.heap.size, 1, none⟩ = some (.int .i64 a1) := cells_below hb1 (by omega) 1 (C0.out 1)
  have HF : Hid (Below w.heap.size w w1) := B0.out.trans (hb1.mono (by omega))
  clear V hb1
  go_wp2_with (go_at_call 12; (with_reducible refine (P1 _).mono ?_); rintro e w' ⟨rfl, n2, rfl⟩)
  go_ret
  exact ⟨rfl, below_drewN HF.out _⟩

theorem pack_two (X : World) (a1 : Int) (v : Nat) (pk : packR [a1] [v] = (v, 0)) (hv : v < 4294967296) :
    Calls Try.prog 14 #[.slice (some ⟨X.heap.size, 0, none⟩) 1 1, .slice (some ⟨X.heap.size + 1, 0, none⟩) 1 1] ((X.alloc (.cells #[.int .i64 a1] 3)).alloc (.cells #[.int .u32 v] 24)) fun e w' =>
      e = .returned (.tuple #[.int .u64 v, .int .i64 0]) ∧ Drew ((X.alloc (.cells #[.int .i64 a1] 3)).alloc (.cells #[.int .u32 v] 24)) w' := by
  have P := pack_any ((X.alloc (.cells #[.int .i64 a1] 3)).alloc (.cells #[.int .u32 v] 24)) (some ⟨X.heap.size, 0, none⟩) (some ⟨X.heap.size + 1, 0, none⟩) 1 1 1 1 [a1] [v] rfl rfl (by omega) (by omega)
    ((rd_new X (vi [a1]) 3).alloc _) (by have := rd_new (X.alloc (.cells #[.int .i64 a1] 3)) (vu [v]) 24; rw [show (X.alloc (.cells #[.int .i64 a1] 3)).heap.size = X.heap.size + 1 by simp] at this; exact this) (by unfold small; simpa using hv)
  rw [pk] at P
  exact P

theorem unpack_one (X : World) (a1 : Int) (v : Nat) (up : unpackR v [a1] = ([v], 0)) (hv : v < 4294967296) :
    Calls Try.prog 16 #[.int .u64 v, .slice (some ⟨X.heap.size, 0, none⟩) 1 1] (X.alloc (.cells #[.int .i64 a1] 3)) fun e w' =>
      ∃ g off cap, e = .returned (.tuple #[.slice (some ⟨g, off, none⟩) 1 cap, .int .i64 0]) ∧ w'.cell? ⟨g, off, none⟩ = some (.int .u32 v) ∧ Below (X.heap.size + 1) (X.alloc (.cells #[.int .i64 a1] 3)) w' := by
  refine (unpack_any v (by omega) (X.alloc (.cells #[.int .i64 a1] 3)) (some ⟨X.heap.size, 0, none⟩) 1 1 [a1] rfl (by omega) (rd_new X (vi [a1]) 3)).mono ?_
  rintro e w' ⟨v', rfl, hU, hb⟩
  rw [up] at hU ⊢
  obtain ⟨a, cap, rfl, _, _, hR⟩ := hU.rd
  obtain ⟨g, off, rfl, hc⟩ := hR.cell (k := 0) (v := .int .u32 (v : Int)) rfl
  refine ⟨g, off, cap, rfl, hc, ?_⟩
  rw [show (X.alloc (.cells #[.int .i64 a1] 3)).heap.size = X.heap.size + 1 by simp] at hb
  exact hb

set_option maxHeartbeats 3200000 in
/-- BitsBack, where the number is put: P the word, Y and Z what another field held and holds. -/
theorem back_walk (w : World) (W v P Y Z : Nat) (E a0 a1 a2 a3 : Int)
    (P1 : ∀ w, Calls Try.prog 12 #[.int .u64 W, .int .i64 a0, .int .i64 a1, .int .u32 v] w fun e w' => e = .returned (.tuple #[.int .u64 P, .int .i64 0]) ∧ ∃ n, w' = w.drewN n)
    (G1 : ∀ w, Calls Try.prog 10 #[.int .u64 P, .int .i64 a0, .int .i64 a1] w fun e w' => e = .returned (.tuple #[.int .u32 v, .int .i64 0]) ∧ ∃ n, w' = w.drewN n)
    (G2 : ∀ w, Calls Try.prog 10 #[.int .u64 W, .int .i64 a2, .int .i64 a3] w fun e w' => e = .returned (.tuple #[.int .u32 Y, .int .i64 E]) ∧ ∃ n, w' = w.drewN n)
    (G3 : ∀ w, Calls Try.prog 10 #[.int .u64 P, .int .i64 a2, .int .i64 a3] w fun e w' => e = .returned (.tuple #[.int .u32 Z, .int .i64 E]) ∧ ∃ n, w' = w.drewN n)
    (pk : Hid (packR [a1] [v] = (v, 0))) (up : Hid (unpackR v [a1] = ([v], 0))) (hv : v < 4294967296)
    (m1 : 0 ≤ a0) (m2 : 1 ≤ a1) (m3 : a0 + a1 ≤ 64)
    (hc : ((E == 0) = false ∧ (E != 0) = true) ∨ (E = 0 ∧ 0 ≤ a2 ∧ 1 ≤ a3 ∧ a2 + a3 ≤ 64 ∧ a0 + a1 ≤ a2 ∧ Y = Z) ∨ (E = 0 ∧ 0 ≤ a2 ∧ 1 ≤ a3 ∧ a2 + a3 ≤ 64 ∧ ¬ a0 + a1 ≤ a2 ∧ a2 + a3 ≤ a0 ∧ Y = Z) ∨ (E = 0 ∧ 0 ≤ a2 ∧ 1 ≤ a3 ∧ a2 + a3 ≤ 64 ∧ ¬ a0 + a1 ≤ a2 ∧ ¬ a2 + a3 ≤ a0)) :
    Calls Try.prog 7 #[.int .u64 W, .agg #[.int .i64 a0, .int .i64 a1, .int .i64 a2, .int .i64 a3], .int .u32 v] w fun e w' => e = .returned (.bool true) ∧ Below w.heap.size w w' := by
  have b0 : Below w.heap.size w (w.alloc (.cells #[.int .i64 a0, .int .i64 a1, .int .i64 a2, .int .i64 a3] 46)) := (Below.refl _ _).alloc (Nat.le_refl _) _
  have V := lives_any (w.alloc (.cells #[.int .i64 a0, .int .i64 a1, .int .i64 a2, .int .i64 a3] 46))
  have c0 : ∀ j, (w.alloc (.cells #[.int .i64 a0, .int .i64 a1, .int .i64 a2, .int .i64 a3] 46)).cell? ⟨w.heap.size, j, none⟩ = #[Value.int .i64 a0, .int .i64 a1, .int .i64 a2, .int .i64 a3][j]? := fun j => World.cell?_alloc_at _ _ _ _ rfl
  rw [show (w.alloc (.cells #[.int .i64 a0, .int .i64 a1, .int .i64 a2, .int .i64 a3] 46)).heap.size = w.heap.size + 1 by simp] at V
  have B0 : Hid (Below w.heap.size w (w.alloc (.cells #[.int .i64 a0, .int .i64 a1, .int .i64 a2, .int .i64 a3] 46))) := b0
  have C0 : Hid (∀ j, (w.alloc (.cells #[.int .i64 a0, .int .i64 a1, .int .i64 a2, .int .i64 a3] 46)).cell? ⟨w.heap.size, j, none⟩ = #[Value.int .i64 a0, .int .i64 a1, .int .i64 a2, .int .i64 a3][j]?) := c0
  clear b0 c0
  rcases hc with ⟨t1, t2⟩ | ⟨rfl, q1, q2, q3, q4, rfl⟩ | ⟨rfl, q1, q2, q3, q4, q5, rfl⟩ | ⟨rfl, q1, q2, q3, q4, q5⟩
  all_goals
    go_enter Try.func7, Try.ntmps7
    go_wp2_with fail
    go_at_call 9
    refine V.mono ?_
    rintro e w1 ⟨rfl, hb1⟩
    have d0 : w1.cell? ⟨w.heap.size, 0, none⟩ = some (.int .i64 a0) := cells_below hb1 (by omega) 0 (C0.out 0)
    have d1 : w1.cell? ⟨w.heap.size, 1, none⟩ = some (.int .i64 a1) := cells_below hb1 (by omega) 1 (C0.out 1)
    have d2 : w1.cell? ⟨w.heap.size, 2, none⟩ = some (.int .i64 a2) := cells_below hb1 (by omega) 2 (C0.out 2)
    have d3 : w1.cell? ⟨w.heap.size, 3, none⟩ = some (.int .i64 a3) := cells_below hb1 (by omega) 3 (C0.out 3)
    have HF : Hid (Below (w.heap.size + 1) w1 w1) := Below.refl _ _
    have HG : Hid (Below w.heap.size w w1) := B0.out.trans (hb1.mono (by omega))
    have hz1 : w.heap.size + 1 ≤ w1.heap.size := by have := hb1.size; simpa using this
    clear V hb1
    go_wp2_with (first
      | (go_at_call 12; (with_reducible refine (P1 _).mono ?_); rintro e w' ⟨rfl, n2, rfl⟩)
      | (go_at_call 10; (with_reducible refine (G1 _).mono ?_); rintro e w' ⟨rfl, n3, rfl⟩)
      | (go_at_call 10; (with_reducible refine (G2 _).mono ?_); rintro e w' ⟨rfl, n4, rfl⟩)
      | (go_at_call 10; (with_reducible refine (G3 _).mono ?_); rintro e w' ⟨rfl, n5, rfl⟩))
    have hP := pack_two (w1.drewN (n2 + n3 + n4 + n5)) a1 v pk.out hv
    refine hP.mono ?_
    rintro e w2 ⟨rfl, hD⟩
    have B2 : Below (w.heap.size + 1) w1 w2 := (((below_drewN HF.out _).alloc hz1 _).alloc (by simp; omega) _).trans (hD.below _)
    have d1' : w2.cell? ⟨w.heap.size, 1, none⟩ = some (.int .i64 a1) := cells_below B2 (by omega) 1 d1
    have HG2 : Hid (Below w.heap.size w w2) := HG.out.trans (B2.mono (by omega))
    have hz2 : w.heap.size ≤ w2.heap.size := by have := B2.size; omega
    clear hD B2 HG HF hP d0 d1 d2 d3
    go_wp2_with fail
    go_at_call 16
    refine (unpack_one w2 a1 v up.out hv).mono ?_
    rintro e w3 ⟨g, off, cap, rfl, hc3, hb3⟩
    have HG3 : Hid (Below w.heap.size w w3) := (HG2.out.alloc hz2 _).trans (hb3.mono (by omega))
    clear hb3 HG2 d1'
    go_wp2
    go_ret
    exact ⟨rfl, HG3.out⟩

theorem bitsBack_any (w : World) (W v : Nat) (a0 a1 a2 a3 : Int) (hW : W < 18446744073709551616) (hv : v < 4294967296) :
    Calls Try.prog 7 #[.int .u64 W, .agg #[.int .i64 a0, .int .i64 a1, .int .i64 a2, .int .i64 a3], .int .u32 v] w fun e w' => e = .returned (.bool true) ∧ Below w.heap.size w w' := by
  by_cases h : (putR W a0 a1 v).2 = 0
  · obtain ⟨e1, e2, e3, e4⟩ := back_eq h
    have hP := putR_lt W a0 a1 v hW
    have f0 := fld_of (putR_ok h).1
    have Q := fun w => put_any W a0 a1 v hW hv w
    rw [h] at Q
    have G1 := fun w => get_any (putR W a0 a1 v).1 a0 a1 hP w
    rw [e1, e2] at G1
    refine back_walk w W v (putR W a0 a1 v).1 (getV W a2 a3) (getV (putR W a0 a1 v).1 a2 a3) (getE a2 a3) a0 a1 a2 a3 Q G1 (fun w => get_any W a2 a3 hW w) (fun w => get_any _ a2 a3 hP w) e3 e4 hv f0.1 f0.2.1 f0.2.2.2 ?_
    by_cases hf : fldB a2 a3 = true
    · have f1 := fld_of hf
      have hE : getE a2 a3 = 0 := by rw [getE, if_pos hf]
      refine Or.inr ?_
      by_cases q4 : a0 + a1 ≤ a2
      · exact Or.inl ⟨hE, f1.1, f1.2.1, f1.2.2.2, q4, (back_apart h hf (Or.inl q4)).symm⟩
      · refine Or.inr ?_
        by_cases q5 : a2 + a3 ≤ a0
        · exact Or.inl ⟨hE, f1.1, f1.2.1, f1.2.2.2, q4, q5, (back_apart h hf (Or.inr q5)).symm⟩
        · exact Or.inr ⟨hE, f1.1, f1.2.1, f1.2.2.2, q4, q5⟩
    · have hE : getE a2 a3 = 1 := by rw [getE, if_neg hf]
      rw [hE]
      exact Or.inl ⟨rfl, rfl⟩
  · exact bitsBack_no w W v a0 a1 a2 a3 hW hv h
end Go.Proofs.Ytknmloompmnmnaa
