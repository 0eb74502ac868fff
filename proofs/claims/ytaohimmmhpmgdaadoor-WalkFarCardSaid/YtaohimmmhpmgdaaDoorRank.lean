/-
  The walks of rank's Of and Rises, at channels whose ranks rise.
-/
import Derived.Test.YtaohimmmhpmgdaaDoorPt
namespace Go.Proofs.YtaohimmmhpmgdaaDoor
open Go.RowKit

set_option maxHeartbeats 2000000 in
theorem of_any (c : Cf) (n p : Int) (w : World) (hp : bsB c n p = true) (h0 : p ≠ 0) (hS : Steps w) :
    Calls Tryd.prog 34 #[cfv c, .int .i64 n, .int .i64 p] w fun e w' => e = .returned (.tuple #[.int .i64 (rk c n p), .bool true]) ∧ Below w.heap.size w w' := by
  have A0 : Hid (At w c (w.alloc (.cells (cfc c) 29))) := At.start w c
  have KB := beside_any c n p _ (A0.out.steps hS)
  have KP := place_any c n
  obtain ⟨s1, s2, _⟩ := step_ok hp
  obtain ⟨hc, n1, n2, n3, n4, _⟩ := place_of s1
  have f := fits_of hc
  have hw1 := f.w1
  have hw2 := f.w2
  have hh1 := f.h1
  have hh2 := f.h2
  have mm := rk_mul s1
  have hpp : p = 1 ∨ p = 2 ∨ p = 3 ∨ p = 4 := by have := (isP_iff p).1 s2; omega
  rw [hp] at KB
  clear hS hp s2 hc f
  generalize bsN c n = BN at *
  unfold rk
  generalize plx c n = X at *
  generalize ply c n = Y at *
  generalize ple c n = Z at *
  obtain ⟨cw, ch, cl, cd, cr, ci, cb, we, ca⟩ := c
  simp only [cfv, cfc] at *
  generalize hT : 2 * ch * X = T at *
  obtain ⟨H2, hH2⟩ : ∃ H2, 2 * ch = H2 := ⟨_, rfl⟩
  rw [hH2] at hT
  have a1 : IntKind.i64.wrap (2 * ch) = H2 := by rw [IntWalk.i64_in _ (by omega)]; exact hH2
  have a2 : IntKind.i64.wrap (H2 * X) = T := by rw [hT]; exact IntWalk.i64_in _ (by omega)
  obtain ⟨C, hC⟩ : ∃ C, cw + T = C := ⟨_, rfl⟩
  have a3 : IntKind.i64.wrap (cw + T) = C := by rw [IntWalk.i64_in _ (by omega)]; exact hC
  simp only [hC]
  obtain ⟨R, hR⟩ : ∃ R, (if p = 2 then cw - 1 - X else if p = 3 then C + Y else if p = 4 then C + ch - 1 - Y else C + ch) = R := ⟨_, rfl⟩
  rw [hR]
  have g1 : p = 1 → IntKind.i64.wrap (C + ch) = R := by
    rintro rfl
    simp at hR
    rw [IntWalk.i64_in _ (by omega)]; exact hR
  have g2 : p = 2 → ∃ A, IntKind.i64.wrap (cw - 1) = A ∧ IntKind.i64.wrap (A - X) = R := by
    rintro rfl
    simp at hR
    exact ⟨cw - 1, IntWalk.i64_in _ (by omega), by rw [IntWalk.i64_in _ (by omega)]; exact hR⟩
  have g3 : p = 3 → IntKind.i64.wrap (C + Y) = R := by
    rintro rfl
    simp at hR
    rw [IntWalk.i64_in _ (by omega)]; exact hR
  have g4 : p = 4 → ∃ A B, IntKind.i64.wrap (C + ch) = A ∧ IntKind.i64.wrap (A - 1) = B ∧ IntKind.i64.wrap (B - Y) = R := by
    rintro rfl
    simp at hR
    exact ⟨C + ch, C + ch - 1, IntWalk.i64_in _ (by omega), IntWalk.i64_in _ (by omega), by rw [IntWalk.i64_in _ (by omega)]; exact hR⟩
  clear hT hH2 hC hR h0
  have fin : (p = 1 ∧ IntKind.i64.wrap (C + ch) = R) ∨ (p = 2 ∧ ∃ A, IntKind.i64.wrap (cw - 1) = A ∧ IntKind.i64.wrap (A - X) = R) ∨ (p = 3 ∧ IntKind.i64.wrap (C + Y) = R) ∨ (p = 4 ∧ ∃ A B, IntKind.i64.wrap (C + ch) = A ∧ IntKind.i64.wrap (A - 1) = B ∧ IntKind.i64.wrap (B - Y) = R) := by
    rcases hpp with h | h | h | h
    · exact Or.inl ⟨h, g1 h⟩
    · exact Or.inr (Or.inl ⟨h, g2 h⟩)
    · exact Or.inr (Or.inr (Or.inl ⟨h, g3 h⟩))
    · exact Or.inr (Or.inr (Or.inr ⟨h, g4 h⟩))
  clear g1 g2 g3 g4 hpp
  rcases fin with ⟨rfl, b1⟩ | ⟨rfl, A, b1, b2⟩ | ⟨rfl, b1⟩ | ⟨rfl, A, B, b1, b2, b3⟩
  all_goals
    go_enter Tryd.func34, Tryd.ntmps34
    go_wp2_with fail
    go_at_call 23
    refine KB.mono ?_
    rintro e v1 ⟨rfl, hb⟩
    have HA1 : Hid (At w ⟨cw, ch, cl, cd, cr, ci, cb, we, ca⟩ v1) := A0.out.trans hb
    clear hb KB A0
    obtain ⟨x0, x1, x2, x3, x4, x5, x6, x7, x8⟩ := HA1.out.cells
    simp only at x0 x1 x2 x3 x4 x5 x6 x7 x8
    go_wp2_with fail
    go_at_call 32
    refine (KP _).mono ?_
    rintro e v2 ⟨rfl, hb⟩
    have HA2 : Hid (At w ⟨cw, ch, cl, cd, cr, ci, cb, we, ca⟩ v2) := HA1.out.trans hb
    clear hb KP HA1 x0 x1 x2 x3 x4 x5 x6 x7 x8
    obtain ⟨x0, x1, x2, x3, x4, x5, x6, x7, x8⟩ := HA2.out.cells
    simp only at x0 x1 x2 x3 x4 x5 x6 x7 x8
    have HB : Hid (Below w.heap.size w v2) := HA2.out.below
    go_wp2
    go_ret2
    exact ⟨rfl, HB.out⟩

set_option maxRecDepth 100000 in
set_option maxHeartbeats 2000000 in
theorem rises_any (c : Cf) (f g : Nat → Int) (n : Nat) (s : Option Addr) (cap : Nat) (w : World) (hS : Steps w) (hn : n ≤ 1000) (hr : Rd w s (pc (chK f g n))) (hst : ∀ k, k < n → bsB c (f k) (g k) = true ∧ g k ≠ 0) (hrk : ∀ k, k + 1 < n → rk c (f k) (g k) < rk c (f (k + 1)) (g (k + 1))) :
    Calls Tryd.prog 20 #[cfv c, .slice s n cap] w fun e w' => e = .returned (.bool true) ∧ Below w.heap.size w w' := by
  have A0 : Hid (At w c (w.alloc (.cells (cfc c) 29))) := At.start w c
  have HS : Hid (Steps w) := hS
  have OF := fun k (hk : k < n) v h => of_any c (f k) (g k) v (hst k hk).1 (hst k hk).2 h
  have RI : ∀ k, k < n → 0 ≤ rk c (f k) (g k) := fun k hk => (rk_in (step_ok (hst k hk).1).1 _).1
  have C1 : Hid (∀ k, k < n → ∃ b, s = some ⟨b, 0, none⟩ ∧ b < w.heap.size ∧ w.cell? ⟨b, k * 2, none⟩ = some (.int .i64 (f k)) ∧ w.cell? ⟨b, k * 2 + 1, none⟩ = some (.int .i64 (g k))) := show _ from fun k hk => by
    obtain ⟨h1, h2⟩ := pc_at (chK f g n) k (by rw [chK_len]; exact hk)
    rw [chK_at f g hk] at h1 h2
    obtain ⟨b, rfl, hb, c1⟩ := hr _ _ h1
    obtain ⟨b', e, _, c2⟩ := hr _ _ h2
    simp only [Option.some.injEq, Addr.mk.injEq] at e
    obtain ⟨rfl, _⟩ := e
    rw [Nat.mul_comm] at c1 c2
    exact ⟨b, rfl, hb, c1, c2⟩
  obtain ⟨RK, hRK⟩ : ∃ RK : Nat → Int, ∀ k, rk c (f k) (g k) = RK k := ⟨fun k => rk c (f k) (g k), fun _ => rfl⟩
  simp only [hRK] at *
  -- the rank ahead of the k-th
  obtain ⟨AH, hA0, hAS⟩ : ∃ AH : Nat → Int, AH 0 = -1 ∧ ∀ k, AH (k + 1) = RK k := ⟨fun k => match k with | 0 => -1 | k + 1 => RK k, rfl, fun _ => rfl⟩
  have LT : Hid (∀ k, k < n → AH k < RK k) := show _ from fun k hk => by
    cases k with
    | zero => rw [hA0]; have := RI 0 hk; omega
    | succ k => rw [hAS]; exact hrk k hk
  have HAS : Hid (∀ k, AH (k + 1) = RK k) := hAS
  have HA0 : Hid (AH 0 = -1) := hA0
  clear hS hr hst hrk hRK hA0 hAS RI
  obtain ⟨cw, ch, cl, cd, cr, ci, cb, we, ca⟩ := c
  simp only [cfv, cfc] at *
  go_enter Tryd.func20, Tryd.ntmps20
  go_wp2_with fail
  go_loopw [5, 12] (fun x i wr => ∃ k : Nat, k ≤ n ∧ i = .int .i64 k ∧ x = .int .i64 (AH k) ∧ At w ⟨cw, ch, cl, cd, cr, ci, cb, we, ca⟩ wr) (fun _ i _ => n - (RowKit.intOf i).toNat)
  case atStart => exact ⟨0, Nat.zero_le _, rfl, by rw [HA0.out], A0.out⟩
  case round =>
    obtain ⟨k, hk, rfl, rfl, hat⟩ := hrel
    have HAT : Hid (At w ⟨cw, ch, cl, cd, cr, ci, cb, we, ca⟩ wr) := hat
    clear hat
    by_cases hlt : k < n
    · have h1 : (k : Int) < (n : Int) := by omega
      have h2 : (0 : Int) ≤ k := by omega
      obtain ⟨b, rfl, hb, c1, c2⟩ := C1.out k hlt
      have y1 : wr.cell? ⟨b, k * 2, none⟩ = some (.int .i64 (f k)) := (HAT.out.below.cell (p := ⟨b, k * 2, none⟩) hb).trans c1
      have y2 : wr.cell? ⟨b, k * 2 + 1, none⟩ = some (.int .i64 (g k)) := (HAT.out.below.cell (p := ⟨b, k * 2 + 1, none⟩) hb).trans c2
      have lt := LT.out k hlt
      have ha := HAS.out k
      have K := OF k hlt
      clear OF c1 c2 hb C1
      generalize f k = x at *
      generalize g k = y at *
      generalize RK k = r at *
      have HAK : Hid (AH (k + 1) = r) := ha
      generalize AH k = q at *
      have le : ¬ r ≤ q := by omega
      clear ha lt
      have HA2 : Hid (At w ⟨cw, ch, cl, cd, cr, ci, cb, we, ca⟩ (wr.alloc (.cells #[.int .i64 x, .int .i64 y] 30))) := HAT.out.alloc _
      have hz : w.heap.size < wr.heap.size := by have := HAT.out.size; omega
      obtain ⟨x0, x1, x2, x3, x4, x5, x6, x7, x8⟩ := HAT.out.cells
      simp only at x0 x1 x2 x3 x4 x5 x6 x7 x8
      go_wp2_with fail
      go_at_call 34
      refine (K _ (HA2.out.steps HS.out)).mono ?_
      rintro e va ⟨rfl, hb⟩
      have HA3 : Hid (At w ⟨cw, ch, cl, cd, cr, ci, cb, we, ca⟩ va) := HA2.out.trans hb
      clear hb K HAT HA2 x0 x1 x2 x3 x4 x5 x6 x7 x8 y1 y2 hz
      go_wp2
      go_roundw
      case rel => exact ⟨k + 1, by omega, by go_num, by rw [HAK.out], HA3.out⟩
      case measure => simp [RowKit.intOf]; omega
    · obtain rfl : k = n := by omega
      have h1 : ¬ (k : Int) < (k : Int) := by omega
      clear OF
      go_wp2
      go_ret
      exact ⟨rfl, HAT.out.below⟩
end Go.Proofs.YtaohimmmhpmgdaaDoor
