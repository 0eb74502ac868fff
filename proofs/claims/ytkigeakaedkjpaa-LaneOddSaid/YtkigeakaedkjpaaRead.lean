/-
  The walks of unpack and flit.Read.
-/
import Derived.Test.YtkigeakaedkjpaaUnData
namespace Go.Proofs.Ytkigeakaedkjpaa
open Go.RowKit

theorem beq_one (v : Nat) : ((v : Int) == 1) = (v == 1) := by
  by_cases h : v = 1
  · subst h; rfl
  · have h1 : ((v : Int) == 1) = false := by simp; omega
    have h2 : (v == 1) = false := by simpa using h
    rw [h1, h2]

theorem decH_any (W : Nat) (hW : W < 18446744073709551616) (h1 : W % 4 = 1) (w : World) : Calls Try.prog 70 #[.int .u64 W] w fun e w' => e = .returned (flv (dec W)) ∧ Below w.heap.size w w' := by
  have e : vals W 0 hs = [getV W 0 2, getV W 2 12, getV W 14 12, getV W 26 16, getV W 42 7, getV W 49 1, getV W 50 1] := rfl
  have h := unHead_any W _ _ _ _ _ _ _ hW e w
  have hd : dec W = ⟨1, getV W 2 12, getV W 14 12, getV W 26 16, getV W 42 7, getV W 49 1 == 1, getV W 50 1 == 1, ByteArray.empty⟩ := by
    unfold dec decH
    rw [if_pos h1, e]
    rfl
  rw [hd]
  rw [getV_02, h1, beq_one, beq_one] at h
  exact h

theorem decD_vals (W : Nat) : vals W 0 (ds (getV W 2 3)) = W % 4 :: getV W 2 3 :: vals W 5 (List.replicate (getV W 2 3) 8) := by
  show getV W 0 2 :: getV W (0 + 2) 3 :: vals W (0 + 2 + 3) _ = _
  rw [getV_02]
  rfl

theorem len3 (W : Nat) : getV W 2 3 ≤ 7 := by
  rw [getV_of (by decide)]
  have : W / 2 ^ (2 : Int).toNat % 2 ^ (3 : Int).toNat < 2 ^ (3 : Int).toNat := Nat.mod_lt _ (by decide)
  have e : (2 : Nat) ^ (3 : Int).toNat = 8 := by decide
  omega

theorem vals8 (W : Nat) : ∀ (n : Nat) (a : Int), ∀ x ∈ vals W a (List.replicate n 8), x < 256
  | 0, _, x, h => by cases h
  | n + 1, a, x, h => by
    rw [List.replicate_succ, vals, List.mem_cons] at h
    rcases h with rfl | h
    · unfold getV
      split
      · have : W / 2 ^ a.toNat % 2 ^ (8 : Int).toNat < 2 ^ (8 : Int).toNat := Nat.mod_lt _ (by decide)
        have e : (2 : Nat) ^ (8 : Int).toNat = 256 := by decide
        omega
      · decide
    · exact vals8 W n (a + 8) x h

theorem decD_any (W : Nat) (hW : W < 18446744073709551616) (h2 : W % 4 = 2 ∨ W % 4 = 3) (w : World) : Calls Try.prog 71 #[.int .u64 W] w fun e w' => e = .returned (flv (dec W)) ∧ Below w.heap.size w w' := by
  have h := unData_any W (getV W 2 3) (W % 4) (getV W 2 3) (vals W 5 (List.replicate (getV W 2 3) 8)) hW rfl (len3 W) (decD_vals W) (by rw [vals_len]; simp) (vals8 W _ _) (Nat.mod_lt _ (by decide)) w
  have hd : dec W = ⟨(W % 4 : Nat), 0, 0, 0, 0, false, false, ofB (vals W 5 (List.replicate (getV W 2 3) 8))⟩ := by
    unfold dec decD
    rw [if_neg (by omega), if_neg (by omega), decD_vals]
    rfl
  rw [hd]
  exact h

theorem kind_drew (W : Nat) (hW : W < 18446744073709551616) (w : World) : Calls Try.prog 51 #[.int .u64 W] w fun e w' => e = .returned (.int .i64 ((W % 4 : Nat) : Int)) ∧ Drew w w' :=
  (kind_any W hW w).mono fun _ _ h => ⟨h.1, h.2⟩

/-- A result's eight cells, zero and not frozen. -/
theorem zeros {w w2 : World} (hb : Below (w.heap.size + 1) (w.alloc (.cells zc 49)) w2) :
    w2.cell? ⟨w.heap.size, 0, none⟩ = some (.int .i64 0) ∧
    w2.cell? ⟨w.heap.size, 1, none⟩ = some (.int .i64 0) ∧
    w2.cell? ⟨w.heap.size, 2, none⟩ = some (.int .i64 0) ∧
    w2.cell? ⟨w.heap.size, 3, none⟩ = some (.int .i64 0) ∧
    w2.cell? ⟨w.heap.size, 4, none⟩ = some (.int .i64 0) ∧
    w2.cell? ⟨w.heap.size, 5, none⟩ = some (.bool false) ∧
    w2.cell? ⟨w.heap.size, 6, none⟩ = some (.bool false) ∧
    w2.cell? ⟨w.heap.size, 7, none⟩ = some (.string ⟨#[]⟩) ∧
    w2.frozen? ⟨w.heap.size, 0, none⟩ = false ∧
    w2.frozen? ⟨w.heap.size, 1, none⟩ = false ∧
    w2.frozen? ⟨w.heap.size, 2, none⟩ = false ∧
    w2.frozen? ⟨w.heap.size, 3, none⟩ = false ∧
    w2.frozen? ⟨w.heap.size, 4, none⟩ = false ∧
    w2.frozen? ⟨w.heap.size, 5, none⟩ = false ∧
    w2.frozen? ⟨w.heap.size, 6, none⟩ = false ∧
    w2.frozen? ⟨w.heap.size, 7, none⟩ = false :=
  ⟨(zero_cells1 hb 0).1, (zero_cells1 hb 1).1, (zero_cells1 hb 2).1, (zero_cells1 hb 3).1, (zero_cells1 hb 4).1, (zero_cells1 hb 5).1, (zero_cells1 hb 6).1, (zero_cells1 hb 7).1, (zero_cells1 hb 0).2, (zero_cells1 hb 1).2, (zero_cells1 hb 2).2, (zero_cells1 hb 3).2, (zero_cells1 hb 4).2, (zero_cells1 hb 5).2, (zero_cells1 hb 6).2, (zero_cells1 hb 7).2⟩

set_option maxHeartbeats 400000 in
theorem unpack_zero (W : Nat) (hW : W < 18446744073709551616) (h : W % 4 = 0) (w : World) : Calls Try.prog 63 #[.int .u64 W] w fun e w' => e = .returned (.agg zc) ∧ Below w.heap.size w w' := by
  have K := fun w => kind_drew W hW w
  rw [h] at K
  clear h
  go_enter Try.func63, Try.ntmps63
  go_wp2_with fail
  go_at_call 51
  refine (K _).mono ?_
  rintro e w2 ⟨rfl, hD⟩
  have hb : Below (w.heap.size + 1) (w.alloc (.cells zc 49)) w2 := hD.below _
  obtain ⟨z0, z1, z2, z3, z4, z5, z6, z7, f0, f1, f2, f3, f4, f5, f6, f7⟩ := zeros hb
  have HBW : Hid (Below w.heap.size w w2) := below_box _ _ hb
  clear hD hb K
  go_wp2
  exact bodyPost_ret (v := .agg #[.int .i64 0, .int .i64 0, .int .i64 0, .int .i64 0, .int .i64 0, .bool false, .bool false, .string ⟨#[]⟩]) (by simp [results, Try.results63, go_sem, z0, z1, z2, z3, z4, z5, z6, z7]) rfl ⟨rfl, below_eight HBW.out _ _ _ _ _ _ _ _⟩

set_option maxHeartbeats 400000 in
theorem unpack_head (W : Nat) (D : Fl) (hW : W < 18446744073709551616) (h : W % 4 = 1) (C : ∀ w, Calls Try.prog 70 #[.int .u64 W] w fun e w' => e = .returned (flv D) ∧ Below w.heap.size w w') (w : World) :
    Calls Try.prog 63 #[.int .u64 W] w fun e w' => e = .returned (flv D) ∧ Below w.heap.size w w' := by
  have K := fun w => kind_drew W hW w
  rw [h] at K
  clear h
  simp only [flv, flc] at *
  go_enter Try.func63, Try.ntmps63
  go_wp2_with fail
  go_at_call 51
  refine (K _).mono ?_
  rintro e w2 ⟨rfl, hD⟩
  have hb : Below (w.heap.size + 1) (w.alloc (.cells zc 49)) w2 := hD.below _
  have HBb : Hid (Below (w.heap.size + 1) (w.alloc (.cells zc 49)) w2) := hb
  clear hD hb K
  go_wp2_with fail
  go_at_call 70
  refine (C _).mono ?_
  rintro e w3 ⟨rfl, hc⟩
  have hb : Below (w.heap.size + 1) (w.alloc (.cells zc 49)) w3 := HBb.out.trans (hc.mono (by have := HBb.out.size; simp at *; omega))
  obtain ⟨z0, z1, z2, z3, z4, z5, z6, z7, f0, f1, f2, f3, f4, f5, f6, f7⟩ := zeros hb
  have HBW : Hid (Below w.heap.size w w3) := below_box _ _ hb
  clear hc hb C
  go_wp2
  exact bodyPost_ret (v := .agg #[.int .i64 D.k, .int .i64 D.s, .int .i64 D.d, .int .i64 D.q, .int .i64 D.l, .bool D.m, .bool D.c, .string D.x]) (by simp [results, Try.results63, go_sem, z0, z1, z2, z3, z4, z5, z6, z7]) rfl ⟨rfl, below_eight HBW.out _ _ _ _ _ _ _ _⟩

set_option maxHeartbeats 400000 in
theorem unpack_two (W : Nat) (D : Fl) (hW : W < 18446744073709551616) (h : W % 4 = 2) (C : ∀ w, Calls Try.prog 71 #[.int .u64 W] w fun e w' => e = .returned (flv D) ∧ Below w.heap.size w w') (w : World) :
    Calls Try.prog 63 #[.int .u64 W] w fun e w' => e = .returned (flv D) ∧ Below w.heap.size w w' := by
  have K := fun w => kind_drew W hW w
  rw [h] at K
  clear h
  simp only [flv, flc] at *
  go_enter Try.func63, Try.ntmps63
  go_wp2_with fail
  go_at_call 51
  refine (K _).mono ?_
  rintro e w2 ⟨rfl, hD⟩
  have hb : Below (w.heap.size + 1) (w.alloc (.cells zc 49)) w2 := hD.below _
  have HBb : Hid (Below (w.heap.size + 1) (w.alloc (.cells zc 49)) w2) := hb
  clear hD hb K
  go_wp2_with fail
  go_at_call 71
  refine (C _).mono ?_
  rintro e w3 ⟨rfl, hc⟩
  have hb : Below (w.heap.size + 1) (w.alloc (.cells zc 49)) w3 := HBb.out.trans (hc.mono (by have := HBb.out.size; simp at *; omega))
  obtain ⟨z0, z1, z2, z3, z4, z5, z6, z7, f0, f1, f2, f3, f4, f5, f6, f7⟩ := zeros hb
  have HBW : Hid (Below w.heap.size w w3) := below_box _ _ hb
  clear hc hb C
  go_wp2
  exact bodyPost_ret (v := .agg #[.int .i64 D.k, .int .i64 D.s, .int .i64 D.d, .int .i64 D.q, .int .i64 D.l, .bool D.m, .bool D.c, .string D.x]) (by simp [results, Try.results63, go_sem, z0, z1, z2, z3, z4, z5, z6, z7]) rfl ⟨rfl, below_eight HBW.out _ _ _ _ _ _ _ _⟩

set_option maxHeartbeats 400000 in
theorem unpack_three (W : Nat) (D : Fl) (hW : W < 18446744073709551616) (h : W % 4 = 3) (C : ∀ w, Calls Try.prog 71 #[.int .u64 W] w fun e w' => e = .returned (flv D) ∧ Below w.heap.size w w') (w : World) :
    Calls Try.prog 63 #[.int .u64 W] w fun e w' => e = .returned (flv D) ∧ Below w.heap.size w w' := by
  have K := fun w => kind_drew W hW w
  rw [h] at K
  clear h
  simp only [flv, flc] at *
  go_enter Try.func63, Try.ntmps63
  go_wp2_with fail
  go_at_call 51
  refine (K _).mono ?_
  rintro e w2 ⟨rfl, hD⟩
  have hb : Below (w.heap.size + 1) (w.alloc (.cells zc 49)) w2 := hD.below _
  have HBb : Hid (Below (w.heap.size + 1) (w.alloc (.cells zc 49)) w2) := hb
  clear hD hb K
  go_wp2_with fail
  go_at_call 71
  refine (C _).mono ?_
  rintro e w3 ⟨rfl, hc⟩
  have hb : Below (w.heap.size + 1) (w.alloc (.cells zc 49)) w3 := HBb.out.trans (hc.mono (by have := HBb.out.size; simp at *; omega))
  obtain ⟨z0, z1, z2, z3, z4, z5, z6, z7, f0, f1, f2, f3, f4, f5, f6, f7⟩ := zeros hb
  have HBW : Hid (Below w.heap.size w w3) := below_box _ _ hb
  clear hc hb C
  go_wp2
  exact bodyPost_ret (v := .agg #[.int .i64 D.k, .int .i64 D.s, .int .i64 D.d, .int .i64 D.q, .int .i64 D.l, .bool D.m, .bool D.c, .string D.x]) (by simp [results, Try.results63, go_sem, z0, z1, z2, z3, z4, z5, z6, z7]) rfl ⟨rfl, below_eight HBW.out _ _ _ _ _ _ _ _⟩

theorem unpack1_any (W : Nat) (hW : W < 18446744073709551616) (w : World) : Calls Try.prog 63 #[.int .u64 W] w fun e w' => e = .returned (flv (dec W)) ∧ Below w.heap.size w w' := by
  rcases (by omega : W % 4 = 0 ∨ W % 4 = 1 ∨ W % 4 = 2 ∨ W % 4 = 3) with h | h | h | h
  · have e : dec W = zf := by unfold dec; rw [if_neg (by omega), if_pos h]
    rw [e]
    exact unpack_zero W hW h w
  · exact unpack_head W (dec W) hW h (fun w => decH_any W hW h w) w
  · exact unpack_two W (dec W) hW h (fun w => decD_any W hW (Or.inl h) w) w
  · exact unpack_three W (dec W) hW h (fun w => decD_any W hW (Or.inr h) w) w

set_option maxHeartbeats 800000 in
theorem read_err (W : Nat) (D : Fl) (a : Nat) (e1 : Int) (hW : W < 18446744073709551616) (hr : sealN W = W) (h : e1 ≠ 0)
    (C : ∀ w, Calls Try.prog 63 #[.int .u64 W] w fun e w' => e = .returned (flv D) ∧ Below w.heap.size w w')
    (E : ∀ w, Calls Try.prog 64 #[flv D] w fun e w' => e = .returned (.tuple #[.int .u64 (a : Int), .int .i64 e1]) ∧ Below w.heap.size w w') (w : World) :
    Calls Try.prog 48 #[.int .u64 W] w fun e w' => e = .returned (.tuple #[.agg zc, .int .i64 2]) ∧ Below w.heap.size w w' := by
  have R := fun w => right_any W hW w
  rw [decide_eq_true hr] at R
  clear hr
  have t1 : (e1 != 0) = true := by simpa using h
  have t2 : (e1 == 0) = false := by simpa using h
  clear h
  simp only [flv, flc] at *
  go_enter Try.func48, Try.ntmps48
  go_wp2_with (go_at_call 62; (with_reducible refine (R _).mono ?_); rintro e w' ⟨rfl, rfl⟩)
  go_at_call 63
  refine (C _).mono ?_
  rintro e w2 ⟨rfl, hb⟩
  have hb1 : Below (w.heap.size + 1) (w.alloc (.cells zc 49)) w2 := hb.mono (by simp)
  have HB1 : Hid (Below (w.heap.size + 1) (w.alloc (.cells zc 49)) w2) := hb1
  have hz : w.heap.size < w2.heap.size := by have := hb1.size; simp at this; omega
  clear hb hb1 C R
  go_wp2_with fail
  go_at_call 64
  refine (E _).mono ?_
  rintro e w3 ⟨rfl, hc⟩
  have hf := fun j => flit_cells (w := w2) (w1 := w3) D (hc.mono (by simp)) j
  have hb := HB1.out.trans ((below_box (w := w2) (flc D) 49 (hc.mono (by simp))).mono (by omega))
  obtain ⟨z0, z1, z2, z3, z4, z5, z6, z7, f0, f1, f2, f3, f4, f5, f6, f7⟩ := zeros hb
  have HBW : Hid (Below w.heap.size w w3) := below_box _ _ hb
  have d0 : w3.cell? ⟨w2.heap.size, 0, none⟩ = some (.int .i64 D.k) := hf 0
  have d1 : w3.cell? ⟨w2.heap.size, 1, none⟩ = some (.int .i64 D.s) := hf 1
  have d2 : w3.cell? ⟨w2.heap.size, 2, none⟩ = some (.int .i64 D.d) := hf 2
  have d3 : w3.cell? ⟨w2.heap.size, 3, none⟩ = some (.int .i64 D.q) := hf 3
  have d4 : w3.cell? ⟨w2.heap.size, 4, none⟩ = some (.int .i64 D.l) := hf 4
  have d5 : w3.cell? ⟨w2.heap.size, 5, none⟩ = some (.bool D.m) := hf 5
  have d6 : w3.cell? ⟨w2.heap.size, 6, none⟩ = some (.bool D.c) := hf 6
  have d7 : w3.cell? ⟨w2.heap.size, 7, none⟩ = some (.string D.x) := hf 7
  have g1 : ¬ w2.heap.size = w.heap.size := by omega
  have g2 : ¬ w.heap.size = w2.heap.size := by omega
  clear hc hb hf E
  go_wp2
  exact bodyPost_ret (v := .tuple #[.agg #[.int .i64 0, .int .i64 0, .int .i64 0, .int .i64 0, .int .i64 0, .bool false, .bool false, .string ⟨#[]⟩], .int .i64 2]) (by simp [results, Try.results48, go_sem, z0, z1, z2, z3, z4, z5, z6, z7]) rfl ⟨rfl, below_eight HBW.out _ _ _ _ _ _ _ _⟩

set_option maxHeartbeats 800000 in
theorem read_ne (W : Nat) (D : Fl) (a : Nat) (e1 : Int) (hW : W < 18446744073709551616) (hr : sealN W = W) (h : e1 = 0) (hne : a ≠ W)
    (C : ∀ w, Calls Try.prog 63 #[.int .u64 W] w fun e w' => e = .returned (flv D) ∧ Below w.heap.size w w')
    (E : ∀ w, Calls Try.prog 64 #[flv D] w fun e w' => e = .returned (.tuple #[.int .u64 (a : Int), .int .i64 e1]) ∧ Below w.heap.size w w') (w : World) :
    Calls Try.prog 48 #[.int .u64 W] w fun e w' => e = .returned (.tuple #[.agg zc, .int .i64 2]) ∧ Below w.heap.size w w' := by
  have R := fun w => right_any W hW w
  rw [decide_eq_true hr] at R
  clear hr
  subst h
  have t1 : ((a : Int) != (W : Int)) = true := by simp; omega
  have t2 : ((a : Int) == (W : Int)) = false := by simp; omega
  clear hne
  simp only [flv, flc] at *
  go_enter Try.func48, Try.ntmps48
  go_wp2_with (go_at_call 62; (with_reducible refine (R _).mono ?_); rintro e w' ⟨rfl, rfl⟩)
  go_at_call 63
  refine (C _).mono ?_
  rintro e w2 ⟨rfl, hb⟩
  have hb1 : Below (w.heap.size + 1) (w.alloc (.cells zc 49)) w2 := hb.mono (by simp)
  have HB1 : Hid (Below (w.heap.size + 1) (w.alloc (.cells zc 49)) w2) := hb1
  have hz : w.heap.size < w2.heap.size := by have := hb1.size; simp at this; omega
  clear hb hb1 C R
  go_wp2_with fail
  go_at_call 64
  refine (E _).mono ?_
  rintro e w3 ⟨rfl, hc⟩
  have hf := fun j => flit_cells (w := w2) (w1 := w3) D (hc.mono (by simp)) j
  have hb := HB1.out.trans ((below_box (w := w2) (flc D) 49 (hc.mono (by simp))).mono (by omega))
  obtain ⟨z0, z1, z2, z3, z4, z5, z6, z7, f0, f1, f2, f3, f4, f5, f6, f7⟩ := zeros hb
  have HBW : Hid (Below w.heap.size w w3) := below_box _ _ hb
  have d0 : w3.cell? ⟨w2.heap.size, 0, none⟩ = some (.int .i64 D.k) := hf 0
  have d1 : w3.cell? ⟨w2.heap.size, 1, none⟩ = some (.int .i64 D.s) := hf 1
  have d2 : w3.cell? ⟨w2.heap.size, 2, none⟩ = some (.int .i64 D.d) := hf 2
  have d3 : w3.cell? ⟨w2.heap.size, 3, none⟩ = some (.int .i64 D.q) := hf 3
  have d4 : w3.cell? ⟨w2.heap.size, 4, none⟩ = some (.int .i64 D.l) := hf 4
  have d5 : w3.cell? ⟨w2.heap.size, 5, none⟩ = some (.bool D.m) := hf 5
  have d6 : w3.cell? ⟨w2.heap.size, 6, none⟩ = some (.bool D.c) := hf 6
  have d7 : w3.cell? ⟨w2.heap.size, 7, none⟩ = some (.string D.x) := hf 7
  have g1 : ¬ w2.heap.size = w.heap.size := by omega
  have g2 : ¬ w.heap.size = w2.heap.size := by omega
  clear hc hb hf E
  go_wp2
  exact bodyPost_ret (v := .tuple #[.agg #[.int .i64 0, .int .i64 0, .int .i64 0, .int .i64 0, .int .i64 0, .bool false, .bool false, .string ⟨#[]⟩], .int .i64 2]) (by simp [results, Try.results48, go_sem, z0, z1, z2, z3, z4, z5, z6, z7]) rfl ⟨rfl, below_eight HBW.out _ _ _ _ _ _ _ _⟩

set_option maxHeartbeats 800000 in
theorem read_yes (W : Nat) (D : Fl) (a : Nat) (e1 : Int) (hW : W < 18446744073709551616) (hr : sealN W = W) (h : e1 = 0) (hne : a = W)
    (C : ∀ w, Calls Try.prog 63 #[.int .u64 W] w fun e w' => e = .returned (flv D) ∧ Below w.heap.size w w')
    (E : ∀ w, Calls Try.prog 64 #[flv D] w fun e w' => e = .returned (.tuple #[.int .u64 (a : Int), .int .i64 e1]) ∧ Below w.heap.size w w') (w : World) :
    Calls Try.prog 48 #[.int .u64 W] w fun e w' => e = .returned (.tuple #[flv D, .int .i64 0]) ∧ Below w.heap.size w w' := by
  have R := fun w => right_any W hW w
  rw [decide_eq_true hr] at R
  clear hr
  subst h
  subst hne
  simp only [flv, flc] at *
  go_enter Try.func48, Try.ntmps48
  go_wp2_with (go_at_call 62; (with_reducible refine (R _).mono ?_); rintro e w' ⟨rfl, rfl⟩)
  go_at_call 63
  refine (C _).mono ?_
  rintro e w2 ⟨rfl, hb⟩
  have hb1 : Below (w.heap.size + 1) (w.alloc (.cells zc 49)) w2 := hb.mono (by simp)
  have HB1 : Hid (Below (w.heap.size + 1) (w.alloc (.cells zc 49)) w2) := hb1
  have hz : w.heap.size < w2.heap.size := by have := hb1.size; simp at this; omega
  clear hb hb1 C R
  go_wp2_with fail
  go_at_call 64
  refine (E _).mono ?_
  rintro e w3 ⟨rfl, hc⟩
  have hf := fun j => flit_cells (w := w2) (w1 := w3) D (hc.mono (by simp)) j
  have hb := HB1.out.trans ((below_box (w := w2) (flc D) 49 (hc.mono (by simp))).mono (by omega))
  obtain ⟨z0, z1, z2, z3, z4, z5, z6, z7, f0, f1, f2, f3, f4, f5, f6, f7⟩ := zeros hb
  have HBW : Hid (Below w.heap.size w w3) := below_box _ _ hb
  have d0 : w3.cell? ⟨w2.heap.size, 0, none⟩ = some (.int .i64 D.k) := hf 0
  have d1 : w3.cell? ⟨w2.heap.size, 1, none⟩ = some (.int .i64 D.s) := hf 1
  have d2 : w3.cell? ⟨w2.heap.size, 2, none⟩ = some (.int .i64 D.d) := hf 2
  have d3 : w3.cell? ⟨w2.heap.size, 3, none⟩ = some (.int .i64 D.q) := hf 3
  have d4 : w3.cell? ⟨w2.heap.size, 4, none⟩ = some (.int .i64 D.l) := hf 4
  have d5 : w3.cell? ⟨w2.heap.size, 5, none⟩ = some (.bool D.m) := hf 5
  have d6 : w3.cell? ⟨w2.heap.size, 6, none⟩ = some (.bool D.c) := hf 6
  have d7 : w3.cell? ⟨w2.heap.size, 7, none⟩ = some (.string D.x) := hf 7
  have g1 : ¬ w2.heap.size = w.heap.size := by omega
  have g2 : ¬ w.heap.size = w2.heap.size := by omega
  clear hc hb hf E
  go_wp2
  exact bodyPost_ret (v := .tuple #[.agg #[.int .i64 D.k, .int .i64 D.s, .int .i64 D.d, .int .i64 D.q, .int .i64 D.l, .bool D.m, .bool D.c, .string D.x], .int .i64 0]) (by simp [results, Try.results48, go_sem, z0, z1, z2, z3, z4, z5, z6, z7]) rfl ⟨rfl, below_eight HBW.out _ _ _ _ _ _ _ _⟩

set_option maxHeartbeats 800000 in
theorem read_sum (W : Nat) (hW : W < 18446744073709551616) (hr : sealN W ≠ W) (w : World) :
    Calls Try.prog 48 #[.int .u64 W] w fun e w' => e = .returned (.tuple #[.agg zc, .int .i64 3]) ∧ Below w.heap.size w w' := by
  have R := fun w => right_any W hW w
  rw [decide_eq_false hr] at R
  clear hr
  have hb : Below (w.heap.size + 1) (w.alloc (.cells zc 49)) (w.alloc (.cells zc 49)) := Below.refl _ _
  have HBW : Hid (Below w.heap.size w (w.alloc (.cells zc 49))) := below_box _ _ hb
  clear hb
  go_enter Try.func48, Try.ntmps48
  go_wp2_with (go_at_call 62; (with_reducible refine (R _).mono ?_); rintro e w' ⟨rfl, rfl⟩)
  exact bodyPost_ret (v := .tuple #[.agg #[.int .i64 0, .int .i64 0, .int .i64 0, .int .i64 0, .int .i64 0, .bool false, .bool false, .string ⟨#[]⟩], .int .i64 3]) (by simp [results, Try.results48, go_sem]) rfl ⟨rfl, HBW.out⟩

theorem fread_any (W : Nat) (hW : W < 18446744073709551616) (w : World) :
    Calls Try.prog 48 #[.int .u64 W] w fun e w' => e = .returned (.tuple #[flv (readR W).1, .int .i64 (readR W).2]) ∧ Below w.heap.size w w' := by
  unfold readR
  by_cases h1 : sealN W = W
  · rw [if_pos h1]
    have C := fun w => unpack1_any W hW w
    have E := fun w => fwrite_any (dec W) w
    by_cases h2 : (dec W).wordR = (W, 0)
    · rw [if_pos h2]
      rw [h2] at E
      exact read_yes W (dec W) W 0 hW h1 rfl rfl C E w
    · rw [if_neg h2]
      by_cases h3 : (dec W).wordR.2 = 0
      · exact read_ne W (dec W) (dec W).wordR.1 (dec W).wordR.2 hW h1 h3 (fun h => h2 (Prod.ext h h3)) C E w
      · exact read_err W (dec W) (dec W).wordR.1 (dec W).wordR.2 hW h1 h3 C E w
  · rw [if_neg h1]
    exact read_sum W hW h1 w
end Go.Proofs.Ytkigeakaedkjpaa
