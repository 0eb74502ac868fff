/-
  The walk of LaneNil. (Written by gen_knil.py.)
-/
import Derived.Test.YtkigeakaedkjpaaKLives
namespace Go.Proofs.Ytkigeakaedkjpaa
open Go.RowKit

theorem nil_cells {v : World} {B kb : Nat} {kd n y X : Int} (p : Bk v B #[.int .i64 kd, .int .i64 n, .int .i64 y, .int .u64 X] 54) (k : Bk v kb #[.int .i64 0, .int .i64 0, .int .u64 0, .bool false, .bool false] 43) : v.cell? ⟨B, 1, none⟩ = some (.int .i64 n) ∧ v.cell? ⟨B, 2, none⟩ = some (.int .i64 y) ∧ v.cell? ⟨B, 3, none⟩ = some (.int .u64 X) ∧ v.cell? ⟨kb, 0, none⟩ = some (.int .i64 0) ∧ v.cell? ⟨kb, 1, none⟩ = some (.int .i64 0) ∧ v.cell? ⟨kb, 2, none⟩ = some (.int .u64 0) ∧ v.cell? ⟨kb, 3, none⟩ = some (.bool false) ∧ v.cell? ⟨kb, 4, none⟩ = some (.bool false) :=
  ⟨(p.cell 1).trans rfl, (p.cell 2).trans rfl, (p.cell 3).trans rfl, (k.cell 0).trans rfl, (k.cell 1).trans rfl, (k.cell 2).trans rfl, (k.cell 3).trans rfl, (k.cell 4).trans rfl⟩
set_option maxRecDepth 100000 in
set_option maxHeartbeats 8000000 in
theorem nil_law (kd n y : Int) (x : Nat) (w : World) : Calls Try.prog 6 #[.agg #[.int .i64 kd, .int .i64 n, .int .i64 y, .int .u64 (x : Int)]] w fun e w' => e = .returned (.bool true) ∧ Below w.heap.size w w' := by
  obtain ⟨X, hX⟩ : ∃ X : Int, (x : Int) = X := ⟨_, rfl⟩
  have PC := fun v => knil_put x v
  rw [hX] at PC ⊢
  clear hX
  have P0 : Hid (Bk (w.alloc (.cells #[.int .i64 kd, .int .i64 n, .int .i64 y, .int .u64 X] 54)) w.heap.size #[.int .i64 kd, .int .i64 n, .int .i64 y, .int .u64 X] 54) := Bk.new _ _ _
  have B0 : Hid (Below w.heap.size w (w.alloc (.cells #[.int .i64 kd, .int .i64 n, .int .i64 y, .int .u64 X] 54))) := (Below.refl _ _).alloc (Nat.le_refl _) _
  have LV := lives_any (w.alloc (.cells #[.int .i64 kd, .int .i64 n, .int .i64 y, .int .u64 X] 54))
  go_enter Try.func6, Try.ntmps6
  go_upto_region 1 with fail
  generalize w.alloc (.cells #[.int .i64 kd, .int .i64 n, .int .i64 y, .int .u64 X] 54) = v0 at *
  obtain ⟨B, hB⟩ : ∃ B, w.heap.size = B := ⟨_, rfl⟩
  have HBW : Hid (w.heap.size = B) := hB
  rw [hB] at P0 B0 ⊢
  clear hB
  go_wp2_with fail
  go_at_call 8
  with_reducible refine LV.mono ?_
  rintro e w1 ⟨rfl, b1⟩
  have P1 : Hid (Bk w1 B #[.int .i64 kd, .int .i64 n, .int .i64 y, .int .u64 X] 54) := P0.out.next b1
  have B1 : Hid (Below B w w1) := B0.out.trans (b1.mono (Nat.le_of_lt P0.out.lt))
  clear LV b1 P0 B0
  go_upto_region 5 with (go_at_call 19; with_reducible refine (knil_take _).mono ?_; rintro e w2 ⟨rfl, b2⟩)
  have B2 : Hid (Below B w (w2.alloc (.cells #[.int .i64 0, .int .i64 0, .int .u64 0, .bool false, .bool false] 43))) := (B1.out.trans (b2.mono (Nat.le_of_lt P1.out.lt))).alloc (Nat.le_trans (Nat.le_of_lt P1.out.lt) b2.size) _
  have P2 : Hid (Bk (w2.alloc (.cells #[.int .i64 0, .int .i64 0, .int .u64 0, .bool false, .bool false] 43)) B #[.int .i64 kd, .int .i64 n, .int .i64 y, .int .u64 X] 54) := (P1.out.next b2).alloc _
  have K2 : Hid (Bk (w2.alloc (.cells #[.int .i64 0, .int .i64 0, .int .u64 0, .bool false, .bool false] 43)) w2.heap.size #[.int .i64 0, .int .i64 0, .int .u64 0, .bool false, .bool false] 43) := Bk.new _ _ _
  clear P1 B1 b2
  generalize w2.alloc (.cells #[.int .i64 0, .int .i64 0, .int .u64 0, .bool false, .bool false] 43) = v2 at *
  generalize w2.heap.size = kb at *
  go_upto_region 6 with (go_at_call 23; with_reducible refine (knil_peek _).mono ?_; rintro e w3 ⟨rfl, b3⟩)
  have P3 := (P2.out.next b3).next (Below.refl _ _).drew
  have K3 := (K2.out.next b3).next (Below.refl _ _).drew
  have B3 : Hid (Below B w w3.drew) := (B2.out.trans (b3.mono (Nat.le_of_lt P2.out.lt))).drew
  have S3 := nil_cells P3 K3
  have HB3 : Hid (B < w3.heap.size) := P3.lt
  clear b3 P2 K2 B2
  go_wp2_with fail
  simp only [List.append]
  go_region_held3 (fun v => v.cell? ⟨B, 1, none⟩ = some (.int .i64 n) ∧ v.cell? ⟨B, 2, none⟩ = some (.int .i64 y) ∧ v.cell? ⟨B, 3, none⟩ = some (.int .u64 X) ∧ v.cell? ⟨kb, 0, none⟩ = some (.int .i64 0) ∧ v.cell? ⟨kb, 1, none⟩ = some (.int .i64 0) ∧ v.cell? ⟨kb, 2, none⟩ = some (.int .u64 0) ∧ v.cell? ⟨kb, 3, none⟩ = some (.bool false) ∧ v.cell? ⟨kb, 4, none⟩ = some (.bool false))
    (first | exact S13 | exact S12 | exact S11 | exact S10 | exact S9 | exact S8 | exact S7 | exact S6 | exact S5 | exact S4 | exact S3 | go_keep)
    (first
      | (go_at_call 12; (with_reducible refine (PC _).mono ?_); rintro e w4 ⟨rfl, b4⟩; have P4 := P3.next b4; have K4 := K3.next b4; have S4 := nil_cells P4 K4)
      | (go_at_call 14; (with_reducible refine (by_any y _).mono ?_); rintro e w5 ⟨bb, rfl, -, b5⟩; have P5 := P4.next b5; have K5 := K4.next b5; have S5 := nil_cells P5 K5)
      | (go_at_call 13; (with_reducible refine (knil_find n _ _).mono ?_); rintro e w6 ⟨rfl, b6⟩; have P6 := P5.next b6; have K6 := K5.next b6; have S6 := nil_cells P6 K6)
      | (go_at_call 18; (with_reducible refine (knil_give n _).mono ?_); rintro e w7 ⟨rfl, b7⟩; have P7 := P6.next b7; have K7 := K6.next b7; have S7 := nil_cells P7 K7)
      | (go_at_call 21; (with_reducible refine (knil_len _).mono ?_); rintro e w8 ⟨rfl, b8⟩; have P8 := P7.next b8; have K8 := K7.next b8; have S8 := nil_cells P8 K8)
      | (go_at_call 24; (with_reducible refine (knil_room _).mono ?_); rintro e w9 ⟨rfl, b9⟩; have P9 := P8.next b9; have K9 := K8.next b9; have S9 := nil_cells P9 K9)
      | (go_at_call 15; (with_reducible refine (knil_phase _).mono ?_); rintro e w10 ⟨rfl, b10⟩; have P10 := P9.next b10; have K10 := K9.next b10; have S10 := nil_cells P10 K10)
      | (go_at_call 16; (with_reducible refine (knil_port _).mono ?_); rintro e w11 ⟨rfl, b11⟩; have P11 := P10.next b11; have K11 := K10.next b11; have S11 := nil_cells P11 K11)
      | (go_at_call 25; (with_reducible refine (knil_given _).mono ?_); rintro e w12 ⟨rfl, b12⟩; have P12 := P11.next b12; have K12 := K11.next b12; have S12 := nil_cells P12 K12)
      | (go_at_call 17; (with_reducible refine (knil_copies _).mono ?_); rintro e w13 ⟨rfl, b13⟩; have P13 := P12.next b13; have K13 := K12.next b13; have S13 := nil_cells P13 K13)
      | fail)
  have B13 : Hid (Below B w w13) := (((((((((B3.out.trans (b4.mono (Nat.le_of_lt P3.lt))).trans (b5.mono (Nat.le_of_lt P4.lt))).trans (b6.mono (Nat.le_of_lt P5.lt))).trans (b7.mono (Nat.le_of_lt P6.lt))).trans (b8.mono (Nat.le_of_lt P7.lt))).trans (b9.mono (Nat.le_of_lt P8.lt))).trans (b10.mono (Nat.le_of_lt P9.lt))).trans (b11.mono (Nat.le_of_lt P10.lt))).trans (b12.mono (Nat.le_of_lt P11.lt))).trans (b13.mono (Nat.le_of_lt P12.lt))
  clear P3 K3 S3 P4 K4 S4 P5 K5 S5 P6 K6 S6 P7 K7 S7 P8 K8 S8 P9 K9 S9 P10 K10 S10 P11 K11 S11 P12 K12 S12 P13 K13 S13 b4 b5 b6 b7 b8 b9 b10 b11 b12 b13
  go_wp2
  go_ret
  exact ⟨rfl, by rw [HBW.out]; exact B13.out⟩
end Go.Proofs.Ytkigeakaedkjpaa
