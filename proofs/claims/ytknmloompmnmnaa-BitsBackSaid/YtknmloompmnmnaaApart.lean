/-
  The walks of BitsApart and BitsBack.
-/
import Derived.Test.YtknmloompmnmnaaLaws
namespace Go.Proofs.Ytknmloompmnmnaa
open Go.RowKit

theorem putR_yes {W : Nat} {a s : Int} {v : Nat} (h : fldB a s = true) (hv : v < 2 ^ s.toNat) : putR W a s v = (putN W a.toNat s.toNat v, 0) := by
  unfold putR; rw [if_pos h, if_pos hv]

theorem apart_eq {W : Nat} {a0 a1 a2 a3 : Int} {v0 v1 : Nat} (h0 : (putR W a0 a1 v0).2 = 0) (h1 : (putR W a2 a3 v1).2 = 0) (h : a2 ≥ a0 + a1 ∨ a0 ≥ a2 + a3) :
    (putR (putR W a0 a1 v0).1 a2 a3 v1).2 = 0 ∧ (putR (putR W a2 a3 v1).1 a0 a1 v0).2 = 0 ∧ (putR (putR W a0 a1 v0).1 a2 a3 v1).1 = (putR (putR W a2 a3 v1).1 a0 a1 v0).1 := by
  obtain ⟨f0, l0, e0⟩ := putR_ok h0
  obtain ⟨f1, l1, e1⟩ := putR_ok h1
  rw [e0, e1, putR_yes f1 l1, putR_yes f0 l0]
  have := fld_of f0
  have := fld_of f1
  rw [put_put _ _ _ _ _ _ _ l0 l1 (by omega)]
  exact ⟨rfl, rfl, rfl⟩

theorem back_eq {W : Nat} {a0 a1 : Int} {v : Nat} (h0 : (putR W a0 a1 v).2 = 0) :
    getV (putR W a0 a1 v).1 a0 a1 = v ∧ getE a0 a1 = 0 ∧ packR [a1] [v] = (v, 0) ∧ unpackR v [a1] = ([v], 0) := by
  obtain ⟨f0, l0, e0⟩ := putR_ok h0
  have hf := fld_of f0
  have f1 : fldB 0 a1 = true := fld_mk (by omega) (by omega) (by omega) (by omega)
  have hr : roomF 0 [a1] = true := by rw [roomF, roomF, f1]; rfl
  refine ⟨?_, ?_, ?_, ?_⟩
  · rw [e0, getV, if_pos f0, get_put _ _ _ _ l0]
  · rw [getE, if_pos f0]
  · rw [packR, if_pos ⟨rfl, hr⟩, packF, putR_yes f1 l0, if_pos rfl, packF]
    · congr 1
      unfold putN
      simp [Nat.zero_div, Nat.mod_one]
    · intro s r v q h; cases h
  · rw [unpackR, if_pos hr, vals, vals, getV, if_pos f1]
    congr 2
    simp [Nat.mod_eq_of_lt l0]

theorem back_apart {W : Nat} {a0 a1 a2 a3 : Int} {v : Nat} (h0 : (putR W a0 a1 v).2 = 0) (h1 : fldB a2 a3 = true) (h : a2 ≥ a0 + a1 ∨ a0 ≥ a2 + a3) : getV (putR W a0 a1 v).1 a2 a3 = getV W a2 a3 := by
  obtain ⟨f0, l0, e0⟩ := putR_ok h0
  have := fld_of f0
  have := fld_of h1
  rw [e0, getV, getV, if_pos h1, if_pos h1, get_apart _ _ _ _ _ _ l0 (by omega)]

set_option maxHeartbeats 1600000 in
theorem bitsApart_any (w : World) (W v0 v1 : Nat) (a0 a1 a2 a3 : Int) (hW : W < 18446744073709551616) (hv0 : v0 < 4294967296) (hv1 : v1 < 4294967296) :
    Calls Try.prog 8 #[.int .u64 W, .agg #[.int .i64 a0, .int .i64 a1, .int .i64 a2, .int .i64 a3], .agg #[.int .u32 v0, .int .u32 v1]] w fun e w' => e = .returned (.bool true) ∧ Below w.heap.size w w' := by
  obtain ⟨B, hB⟩ : ∃ B, B = w.heap.size := ⟨_, rfl⟩
  have b0 : Below w.heap.size w ((w.alloc (.cells #[.int .i64 a0, .int .i64 a1, .int .i64 a2, .int .i64 a3] 46)).alloc (.cells #[.int .u32 v0, .int .u32 v1] 48)) := ((Below.refl _ _).alloc (Nat.le_refl _) _).alloc (by simp) _
  have V := lives_any ((w.alloc (.cells #[.int .i64 a0, .int .i64 a1, .int .i64 a2, .int .i64 a3] 46)).alloc (.cells #[.int .u32 v0, .int .u32 v1] 48))
  have c0 : ∀ j, ((w.alloc (.cells #[.int .i64 a0, .int .i64 a1, .int .i64 a2, .int .i64 a3] 46)).alloc (.cells #[.int .u32 v0, .int .u32 v1] 48)).cell? ⟨w.heap.size, j, none⟩ = #[Value.int .i64 a0, .int .i64 a1, .int .i64 a2, .int .i64 a3][j]? := fun j =>
    (World.cell?_of_block (Below.heap_alloc _ _ _ (by simp))).trans (World.cell?_alloc_at _ _ _ _ rfl)
  have c1 : ∀ j, ((w.alloc (.cells #[.int .i64 a0, .int .i64 a1, .int .i64 a2, .int .i64 a3] 46)).alloc (.cells #[.int .u32 v0, .int .u32 v1] 48)).cell? ⟨w.heap.size + 1, j, none⟩ = #[Value.int .u32 v0, .int .u32 v1][j]? := fun j => World.cell?_alloc_at _ _ _ _ (by simp)
  rw [show ((w.alloc (.cells #[.int .i64 a0, .int .i64 a1, .int .i64 a2, .int .i64 a3] 46)).alloc (.cells #[.int .u32 v0, .int .u32 v1] 48)).heap.size = w.heap.size + 2 by simp] at V
  have B0 : Hid (Below w.heap.size w ((w.alloc (.cells #[.int .i64 a0, .int .i64 a1, .int .i64 a2, .int .i64 a3] 46)).alloc (.cells #[.int .u32 v0, .int .u32 v1] 48))) := b0
  have C0 : Hid (∀ j, ((w.alloc (.cells #[.int .i64 a0, .int .i64 a1, .int .i64 a2, .int .i64 a3] 46)).alloc (.cells #[.int .u32 v0, .int .u32 v1] 48)).cell? ⟨w.heap.size, j, none⟩ = #[Value.int .i64 a0, .int .i64 a1, .int .i64 a2, .int .i64 a3][j]?) := c0
  have C1 : Hid (∀ j, ((w.alloc (.cells #[.int .i64 a0, .int .i64 a1, .int .i64 a2, .int .i64 a3] 46)).alloc (.cells #[.int .u32 v0, .int .u32 v1] 48)).cell? ⟨w.heap.size + 1, j, none⟩ = #[Value.int .u32 v0, .int .u32 v1][j]?) := c1
  clear b0 c0 c1 hB B
  have P1 := fun w => put_any W a0 a1 v0 hW hv0 w
  have P2 := fun w => put_any W a2 a3 v1 hW hv1 w
  have l1 := putR_lt W a0 a1 v0 hW
  have l2 := putR_lt W a2 a3 v1 hW
  have S := fun w => seal_any W hW w
  have hs := seal_lt W
  have hX : IntKind.u64.wrap (((sealN W : Nat) : Int) * 256) = IntKind.u64.wrap ((W : Int) * 256) := by
    have := seal_shl W
    rw [IntKind.wrap_u64, IntKind.wrap_u64]
    omega
  have A := @apart_eq W a0 a1 a2 a3 v0 v1
  have Q1 := fun w => put_any (putR W a0 a1 v0).1 a2 a3 v1 l1 hv1 w
  have Q2 := fun w => put_any (putR W a2 a3 v1).1 a0 a1 v0 l2 hv0 w
  have K1 := @putR_ok W a0 a1 v0
  have K2 := @putR_ok W a2 a3 v1
  generalize putR (putR W a0 a1 v0).1 a2 a3 v1 = y1 at *
  generalize putR (putR W a2 a3 v1).1 a0 a1 v0 = y2 at *
  generalize putR W a0 a1 v0 = x1 at *
  generalize putR W a2 a3 v1 = x2 at *
  generalize sealN W = s at *
  obtain ⟨x1, e1⟩ := x1
  obtain ⟨x2, e2⟩ := x2
  obtain ⟨y1, f1⟩ := y1
  obtain ⟨y2, f2⟩ := y2
  simp only at P1 P2 l1 l2 A Q1 Q2 K1 K2
  by_cases z1 : e1 = 0
  · subst z1
    have g1 := (K1 rfl).1
    have b1 := fld_of g1
    by_cases z2 : e2 = 0
    · subst z2
      have g2 := (K2 rfl).1
      have b2 := fld_of g2
      obtain ⟨m1, m2, m3, m4⟩ := b1
      obtain ⟨m5, m6, m7, m8⟩ := b2
      clear K1 K2 g1 g2
      have n1 : 0 ≤ a2 + a3 := by omega
      have n2 : 0 ≤ a0 + a1 := by omega
      by_cases t1 : a0 < a2 + a3
      · by_cases t2 : a2 < a0 + a1
        · clear A Q1 Q2
          go_enter Try.func8, Try.ntmps8
          go_wp2_with fail
          go_at_call 9
          refine V.mono ?_
          rintro e w1 ⟨rfl, hb1⟩
          have d0 : w1.cell? ⟨w.heap.size, 0, none⟩ = some (.int .i64 a0) := cells_below hb1 (by omega) 0 (C0.out 0)
          have d1 : w1.cell? ⟨w.heap.size, 1, none⟩ = some (.int .i64 a1) := cells_below hb1 (by omega) 1 (C0.out 1)
          have d2 : w1.cell? ⟨w.heap.size, 2, none⟩ = some (.int .i64 a2) := cells_below hb1 (by omega) 2 (C0.out 2)
          have d3 : w1.cell? ⟨w.heap.size, 3, none⟩ = some (.int .i64 a3) := cells_below hb1 (by omega) 3 (C0.out 3)
          have d4 : w1.cell? ⟨w.heap.size + 1, 0, none⟩ = some (.int .u32 v0) := cells_below hb1 (by omega) 0 (C1.out 0)
          have d5 : w1.cell? ⟨w.heap.size + 1, 1, none⟩ = some (.int .u32 v1) := cells_below hb1 (by omega) 1 (C1.out 1)
          have HF : Hid (Below w.heap.size w w1) := B0.out.trans (hb1.mono (by omega))
          clear V hb1
          go_wp2_with (first
            | (go_at_call 12; (with_reducible refine (P1 _).mono ?_); rintro e w' ⟨rfl, n2, rfl⟩)
            | (go_at_call 12; (with_reducible refine (P2 _).mono ?_); rintro e w' ⟨rfl, n3, rfl⟩)
            | (go_at_call 19; (with_reducible refine (S _).mono ?_); rintro e w' ⟨rfl, rfl⟩))
          go_ret
          exact ⟨rfl, below_drewN HF.out _⟩
        · obtain ⟨r1, r2, r3⟩ := A rfl rfl (by omega)
          subst r1 r2 r3
          clear A
          go_enter Try.func8, Try.ntmps8
          go_wp2_with fail
          go_at_call 9
          refine V.mono ?_
          rintro e w1 ⟨rfl, hb1⟩
          have d0 : w1.cell? ⟨w.heap.size, 0, none⟩ = some (.int .i64 a0) := cells_below hb1 (by omega) 0 (C0.out 0)
          have d1 : w1.cell? ⟨w.heap.size, 1, none⟩ = some (.int .i64 a1) := cells_below hb1 (by omega) 1 (C0.out 1)
          have d2 : w1.cell? ⟨w.heap.size, 2, none⟩ = some (.int .i64 a2) := cells_below hb1 (by omega) 2 (C0.out 2)
          have d3 : w1.cell? ⟨w.heap.size, 3, none⟩ = some (.int .i64 a3) := cells_below hb1 (by omega) 3 (C0.out 3)
          have d4 : w1.cell? ⟨w.heap.size + 1, 0, none⟩ = some (.int .u32 v0) := cells_below hb1 (by omega) 0 (C1.out 0)
          have d5 : w1.cell? ⟨w.heap.size + 1, 1, none⟩ = some (.int .u32 v1) := cells_below hb1 (by omega) 1 (C1.out 1)
          have HF : Hid (Below w.heap.size w w1) := B0.out.trans (hb1.mono (by omega))
          clear V hb1
          go_wp2_with (first
            | (go_at_call 12; (with_reducible refine (P1 _).mono ?_); rintro e w' ⟨rfl, n2, rfl⟩)
            | (go_at_call 12; (with_reducible refine (P2 _).mono ?_); rintro e w' ⟨rfl, n3, rfl⟩)
            | (go_at_call 12; (with_reducible refine (Q1 _).mono ?_); rintro e w' ⟨rfl, n2, rfl⟩)
            | (go_at_call 12; (with_reducible refine (Q2 _).mono ?_); rintro e w' ⟨rfl, n3, rfl⟩)
            | (go_at_call 19; (with_reducible refine (S _).mono ?_); rintro e w' ⟨rfl, rfl⟩))
          go_ret
          exact ⟨rfl, below_drewN HF.out _⟩
      · obtain ⟨r1, r2, r3⟩ := A rfl rfl (by omega)
        subst r1 r2 r3
        clear A
        go_enter Try.func8, Try.ntmps8
        go_wp2_with fail
        go_at_call 9
        refine V.mono ?_
        rintro e w1 ⟨rfl, hb1⟩
        have d0 : w1.cell? ⟨w.heap.size, 0, none⟩ = some (.int .i64 a0) := cells_below hb1 (by omega) 0 (C0.out 0)
        have d1 : w1.cell? ⟨w.heap.size, 1, none⟩ = some (.int .i64 a1) := cells_below hb1 (by omega) 1 (C0.out 1)
        have d2 : w1.cell? ⟨w.heap.size, 2, none⟩ = some (.int .i64 a2) := cells_below hb1 (by omega) 2 (C0.out 2)
        have d3 : w1.cell? ⟨w.heap.size, 3, none⟩ = some (.int .i64 a3) := cells_below hb1 (by omega) 3 (C0.out 3)
        have d4 : w1.cell? ⟨w.heap.size + 1, 0, none⟩ = some (.int .u32 v0) := cells_below hb1 (by omega) 0 (C1.out 0)
        have d5 : w1.cell? ⟨w.heap.size + 1, 1, none⟩ = some (.int .u32 v1) := cells_below hb1 (by omega) 1 (C1.out 1)
        have HF : Hid (Below w.heap.size w w1) := B0.out.trans (hb1.mono (by omega))
        clear V hb1
        go_wp2_with (first
          | (go_at_call 12; (with_reducible refine (P1 _).mono ?_); rintro e w' ⟨rfl, n2, rfl⟩)
          | (go_at_call 12; (with_reducible refine (P2 _).mono ?_); rintro e w' ⟨rfl, n3, rfl⟩)
          | (go_at_call 12; (with_reducible refine (Q1 _).mono ?_); rintro e w' ⟨rfl, n2, rfl⟩)
          | (go_at_call 12; (with_reducible refine (Q2 _).mono ?_); rintro e w' ⟨rfl, n3, rfl⟩)
          | (go_at_call 19; (with_reducible refine (S _).mono ?_); rintro e w' ⟨rfl, rfl⟩))
        go_ret
        exact ⟨rfl, below_drewN HF.out _⟩
    · have t1 : (e2 == 0) = false := by simpa using z2
      have t2 : (e2 != 0) = true := by simpa using z2
      clear z2 K1 K2 A Q1 Q2 b1 g1
      go_enter Try.func8, Try.ntmps8
      go_wp2_with fail
      go_at_call 9
      refine V.mono ?_
      rintro e w1 ⟨rfl, hb1⟩
      have d0 : w1.cell? ⟨w.heap.size, 0, none⟩ = some (.int .i64 a0) := cells_below hb1 (by omega) 0 (C0.out 0)
      have d1 : w1.cell? ⟨w.heap.size, 1, none⟩ = some (.int .i64 a1) := cells_below hb1 (by omega) 1 (C0.out 1)
      have d2 : w1.cell? ⟨w.heap.size, 2, none⟩ = some (.int .i64 a2) := cells_below hb1 (by omega) 2 (C0.out 2)
      have d3 : w1.cell? ⟨w.heap.size, 3, none⟩ = some (.int .i64 a3) := cells_below hb1 (by omega) 3 (C0.out 3)
      have d4 : w1.cell? ⟨w.heap.size + 1, 0, none⟩ = some (.int .u32 v0) := cells_below hb1 (by omega) 0 (C1.out 0)
      have d5 : w1.cell? ⟨w.heap.size + 1, 1, none⟩ = some (.int .u32 v1) := cells_below hb1 (by omega) 1 (C1.out 1)
      have HF : Hid (Below w.heap.size w w1) := B0.out.trans (hb1.mono (by omega))
      clear V hb1
      go_wp2_with (first
        | (go_at_call 12; (with_reducible refine (P1 _).mono ?_); rintro e w' ⟨rfl, n2, rfl⟩)
        | (go_at_call 12; (with_reducible refine (P2 _).mono ?_); rintro e w' ⟨rfl, n3, rfl⟩)
        | (go_at_call 19; (with_reducible refine (S _).mono ?_); rintro e w' ⟨rfl, rfl⟩))
      go_ret
      exact ⟨rfl, below_drewN HF.out _⟩
  · have t1 : (e1 == 0) = false := by simpa using z1
    have t2 : (e1 != 0) = true := by simpa using z1
    clear z1 K1 K2 A Q1 Q2
    go_enter Try.func8, Try.ntmps8
    go_wp2_with fail
    go_at_call 9
    refine V.mono ?_
    rintro e w1 ⟨rfl, hb1⟩
    have d0 : w1.cell? ⟨w.heap.size, 0, none⟩ = some (.int .i64 a0) := cells_below hb1 (by omega) 0 (C0.out 0)
    have d1 : w1.cell? ⟨w.heap.size, 1, none⟩ = some (.int .i64 a1) := cells_below hb1 (by omega) 1 (C0.out 1)
    have d2 : w1.cell? ⟨w.heap.size, 2, none⟩ = some (.int .i64 a2) := cells_below hb1 (by omega) 2 (C0.out 2)
    have d3 : w1.cell? ⟨w.heap.size, 3, none⟩ = some (.int .i64 a3) := cells_below hb1 (by omega) 3 (C0.out 3)
    have d4 : w1.cell? ⟨w.heap.size + 1, 0, none⟩ = some (.int .u32 v0) := cells_below hb1 (by omega) 0 (C1.out 0)
    have d5 : w1.cell? ⟨w.heap.size + 1, 1, none⟩ = some (.int .u32 v1) := cells_below hb1 (by omega) 1 (C1.out 1)
    have HF : Hid (Below w.heap.size w w1) := B0.out.trans (hb1.mono (by omega))
    clear V hb1
    go_wp2_with (first
      | (go_at_call 12; (with_reducible refine (P1 _).mono ?_); rintro e w' ⟨rfl, n2, rfl⟩)
      | (go_at_call 12; (with_reducible refine (P2 _).mono ?_); rintro e w' ⟨rfl, n3, rfl⟩)
      | (go_at_call 19; (with_reducible refine (S _).mono ?_); rintro e w' ⟨rfl, rfl⟩))
    go_ret
    exact ⟨rfl, below_drewN HF.out _⟩

end Go.Proofs.Ytknmloompmnmnaa
