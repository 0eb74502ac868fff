/-
 The document's router, by value: Idle. (Written by gen_rf15i.py.)
-/
import Derived.Test.YtmmegmonmilkcaaGreatDoorRfA
namespace Go.Proofs.YtmmegmonmilkcaaGreatDoor
open Go.RowKit
theorem idle_yes {S : RS} (hl : S.ins.length = 5 * S.n) (h : ∀ j, j < 5 * S.n → (S.ins.getD j zks).ws = [] ∧ (S.ins.getD j zks).ph = 0) : idleRt S = true := by
 unfold idleRt
 rw [List.all_eq_true]
 intro K hK
 obtain ⟨j, hj, rfl⟩ := List.getElem_of_mem hK
 have := h j (by omega)
 rw [List.getD_eq_getElem?_getD, List.getElem?_eq_getElem hj] at this
 simp at this
 simp [this.1, this.2]
theorem idle_no {S : RS} {j : Nat} (hl : S.ins.length = 5 * S.n) (hj : j < 5 * S.n) (h : (S.ins.getD j zks).ws ≠ [] ∨ (S.ins.getD j zks).ph ≠ 0) : idleRt S = false := by
 unfold idleRt
 rw [List.all_eq_false]
 have h2 : j < S.ins.length := by omega
 refine ⟨S.ins[j], List.getElem_mem h2, ?_⟩
 rw [List.getD_eq_getElem?_getD, List.getElem?_eq_getElem h2] at h
 simp only [Option.getD_some] at h
 rcases h with h | h
 ·simp [h]
 ·simp [h]
set_option maxRecDepth 100000 in
set_option maxHeartbeats 8000000 in
theorem ridle15 {w : World} {c : G.Cf} {S : RS} {v : Value} {D : Nat → Prop} (h : DR w c S v D) (ok : ROk S) :
  Calls Tryz.prog 73 #[v] w fun e w' => e = .returned (.bool (idleRt S)) ∧ Below w.heap.size w w' := by
 obtain ⟨L, g1, g2, g3, g4, c1, c2, c3, c4, rfl, eL, r, dd, xx⟩ := h
 have SA : Hid (∀ u, Below w.heap.size w u → ∀ k, k < 5 * S.n → ∃ a cap, u.cell? ⟨g1, k * 6, none⟩ = some (.int .i64 ((S.ins.getD k zks).r : Int)) ∧ u.cell? ⟨g1, k * 6 + 1, none⟩ = some (.int .i64 (S.ins.getD k zks).ph) ∧ u.cell? ⟨g1, k * 6 + 2, none⟩ = some (.int .i64 (S.ins.getD k zks).port) ∧ u.cell? ⟨g1, k * 6 + 3, none⟩ = some (.int .i64 (S.ins.getD k zks).lane) ∧ u.cell? ⟨g1, k * 6 + 4, none⟩ = some (.slice a (S.ins.getD k zks).ws.length cap) ∧ u.cell? ⟨g1, k * 6 + 5, none⟩ = some (.bool (S.ins.getD k zks).cp)) := show _ from fun u hu k hk => by
  obtain ⟨⟨K, a, cap⟩, hx0, hK, hxm, hkL⟩ := lw_at eL ok.il hk
  simp only at hK
  rw [← hK]
  exact ⟨a, cap, lw_six (r.next hu).a1 hx0 hk⟩
 have YES : Hid ((∀ j, j < 5 * S.n → (S.ins.getD j zks).ws = [] ∧ (S.ins.getD j zks).ph = 0) → idleRt S = true) := show _ → _ from idle_yes ok.il
 have NO : Hid (∀ j, j < 5 * S.n → (S.ins.getD j zks).ws ≠ [] ∨ (S.ins.getD j zks).ph ≠ 0 → idleRt S = false) := show _ from fun j => idle_no ok.il
 obtain ⟨RR, hRR⟩ : ∃ RR, idleRt S = RR := ⟨_, rfl⟩
 rw [hRR] at YES NO ⊢
 have HN8 : Hid (5 * S.n ≤ 4096) := show _ ≤ _ from by have := ok.n8; omega
 clear hRR eL r dd xx ok
 generalize S.ins = ins at *
 generalize S.node = node at *
 generalize S.n = n at *
 obtain ⟨cw, ch, cl, cd, cr, ci, cb, we, ca⟩ := c
 simp only [rrv, rrc] at *
 generalize 5 * n = N at *
 have HN : Hid (N = N) := rfl
 have P0 : Hid (Bk (w.alloc (.cells (zq0 cw ch cl cd cr ci cb we ca node (some ⟨g1, 0, none⟩) (N) c1 (some ⟨g2, 0, none⟩) (N) c2 (some ⟨g3, 0, none⟩) 5 c3 (some ⟨g4, 0, none⟩) 5 c4) 34)) w.heap.size (zq0 cw ch cl cd cr ci cb we ca node (some ⟨g1, 0, none⟩) (N) c1 (some ⟨g2, 0, none⟩) (N) c2 (some ⟨g3, 0, none⟩) 5 c3 (some ⟨g4, 0, none⟩) 5 c4) 34 ∧ Below w.heap.size w (w.alloc (.cells (zq0 cw ch cl cd cr ci cb we ca node (some ⟨g1, 0, none⟩) (N) c1 (some ⟨g2, 0, none⟩) (N) c2 (some ⟨g3, 0, none⟩) 5 c3 (some ⟨g4, 0, none⟩) 5 c4) 34))) := show _ ∧ _ from ⟨Bk.new _ _ _, (Below.refl _ _).alloc (Nat.le_refl _) _⟩
 go_enter Tryz.func73, Tryz.ntmps73
 go_upto_region 1 with fail
 generalize (w.alloc (.cells (zq0 cw ch cl cd cr ci cb we ca node (some ⟨g1, 0, none⟩) (N) c1 (some ⟨g2, 0, none⟩) (N) c2 (some ⟨g3, 0, none⟩) 5 c3 (some ⟨g4, 0, none⟩) 5 c4) 34)) = v0 at *
 have y10 : v0.cell? ⟨w.heap.size, 10, none⟩ = some (.slice (some ⟨g1, 0, none⟩) (N) c1) := (P0.out.1.cell 10).trans rfl
 have HB0 : Hid (Below w.heap.size w v0) := P0.out.2
 clear P0
 go_wp2_with fail
 go_loopw [3] (fun x wr => ∃ i : Nat, i ≤ N ∧ x = .int .i64 (i : Int) ∧ v0 = wr ∧ ∀ j, j < i → (ins.getD j zks).ws = [] ∧ (ins.getD j zks).ph = 0) (fun x _ => N - (RowKit.intOf x).toNat)
 case atStart => exact ⟨0, Nat.zero_le _, rfl, rfl, fun j hj => absurd hj (Nat.not_lt_zero _)⟩
 case round =>
  obtain ⟨i, hi, rfl, rfl, hj⟩ := hrel
  have HJ : Hid (∀ j, j < i → (ins.getD j zks).ws = [] ∧ (ins.getD j zks).ph = 0) := hj
  clear hj
  by_cases hlt : i < N
  case neg =>
   obtain rfl : i = N := by omega
   have e1 : ¬ (i : Int) < (i : Int) := Int.lt_irrefl _
   obtain rfl : RR = true := (YES.out HJ.out)
   clear YES NO HJ hi hlt
   go_wp2
   go_ret
   exact ⟨rfl, HB0.out⟩
  have e1 : (i : Int) < (N : Int) := Int.ofNat_lt.2 hlt
  have e3 := wrap_next hlt HN8.out
  obtain ⟨a, cap, x0, x1, x2, x3, x4, x5⟩ := SA.out _ HB0.out i hlt
  have NO2 : Hid ((ins.getD i zks).ws ≠ [] ∨ (ins.getD i zks).ph ≠ 0 → RR = false) := show _ → _ from NO.out i hlt
  have HI : Hid (i < N ∧ N ≤ N) := show _ ∧ _ from ⟨hlt, Nat.le_refl _⟩
  obtain ⟨K, hK⟩ : ∃ K, ins.getD i zks = K := ⟨_, rfl⟩
  rw [hK] at x0 x1 x2 x3 x4 x5 NO2
  have HK : Hid (ins.getD i zks = K) := hK
  clear hK
  cases hws : K.ws with
  | cons x t =>
   have hp : 0 < K.ws.length := by rw [hws]; exact Nat.succ_pos _
   have hp2 : (0 : Int) < (K.ws.length : Int) := Int.natCast_pos.2 hp
   obtain rfl : RR = false := NO2.out (Or.inl (by rw [hws]; simp))
   clear hws NO2 NO YES HJ
   go_wp2
   go_ret
   exact ⟨rfl, HB0.out⟩
  | nil =>
   rw [hws, List.length_nil] at x4
   by_cases hph : K.ph = 0
   ·rw [hph] at x1
    have HJ2 : Hid (K.ws = [] ∧ K.ph = 0) := show _ ∧ _ from ⟨hws, hph⟩
    clear hws hph NO2 hi hlt
    go_wp2
    go_roundw
    case rel =>
     refine ⟨i + 1, HI.out.1, by go_num, by first | rfl | trivial, fun j hj => ?_⟩
     by_cases e9 : j = i
     ·subst e9
      rw [HK.out]
      exact HJ2.out
     ·exact HJ.out j (by omega)
    case measure =>
     have := HI.out.1
     simp [RowKit.intOf]
     omega
   ·obtain rfl : RR = false := NO2.out (Or.inr hph)
    have hph2 : (K.ph == 0) = false := by simp [hph]
    have hph3 : (K.ph != 0) = true := by simp [hph]
    clear hws NO2 NO YES HJ
    go_wp2
    go_ret
    exact ⟨rfl, HB0.out⟩
end Go.Proofs.YtmmegmonmilkcaaGreatDoor
