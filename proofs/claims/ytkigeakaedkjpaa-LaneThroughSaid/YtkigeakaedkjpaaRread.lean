/-
  The document's own Read, at any word.
-/
import Derived.Test.YtkigeakaedkjpaaRreadD
namespace Go.Proofs.Ytkigeakaedkjpaa
open Go.RowKit

theorem word_len {f : Fl} (h : f.rightB = true) (h1 : f.k ≠ 1) : getV f.word 2 3 = f.x.size := by
  have hv := word_vals h
  unfold Fl.sizes Fl.vals at hv
  rw [if_neg h1, if_neg h1, ds, Ytkigeakaedkjpaa.vals, Ytkigeakaedkjpaa.vals] at hv
  exact (List.cons.inj (List.cons.inj hv).2).1

theorem right_k {f : Fl} (h : f.rightB = true) : f.k = 1 ∨ f.k = 2 ∨ f.k = 3 := by
  rcases right_forms h with ⟨h1, _⟩ | ⟨h1, _⟩
  · exact Or.inl h1
  · exact Or.inr h1

theorem right_size {f : Fl} (h : f.rightB = true) (h1 : f.k ≠ 1) : f.x.size ≤ 6 := by
  rcases right_forms h with ⟨h2, _⟩ | ⟨_, _, _, _, _, _, _, h2⟩
  · exact absurd h2 h1
  · exact h2

theorem wordR_yes {f : Fl} {W : Nat} {e : Int} (h : f.wordR = (W, e)) (he : e = 0) : f.rightB = true ∧ f.word = W := by
  unfold Fl.wordR at h
  by_cases h3 : f.rightB = true
  · rw [if_pos h3] at h
    exact ⟨h3, (Prod.mk.inj h).1⟩
  · rw [if_neg h3] at h
    have := (Prod.mk.inj h).2
    omega

theorem wordR_yes2 {f : Fl} (h : f.wordR.2 = 0) : f.rightB = true ∧ f.word = f.wordR.1 := wordR_yes (W := f.wordR.1) (e := f.wordR.2) rfl h

/-- Where dec's flit and the other one are both no flit of W. -/
theorem readR_two {W : Nat} (hr : sealN W = W) (h : (dec W).wordR ≠ (W, 0)) : readR W = (zf, 2) := by
  unfold readR
  rw [if_pos hr, if_neg h]
theorem readR_yes {W : Nat} (hr : sealN W = W) : (if (dec W).wordR.1 = W ∧ (dec W).wordR.2 = 0 then (dec W, (0 : Int)) else (zf, 2)) = readR W := by
  unfold readR
  rw [if_pos hr]
  by_cases h : (dec W).wordR = (W, 0)
  · rw [if_pos h, if_pos ⟨by rw [h], by rw [h]⟩]
  · rw [if_neg h, if_neg (fun c => h (Prod.ext c.1 c.2))]

set_option maxHeartbeats 800000 in
theorem rread_sum (W : Nat) (hW : W < 18446744073709551616) (hr : sealN W ≠ W) (w : World) :
    Calls Try.prog 22 #[.int .u64 W] w fun e w' => e = .returned (.tuple #[.agg zc, .int .i64 3]) ∧ Below w.heap.size w w' := by
  have R := fun w => rright_any W hW w
  rw [decide_eq_false hr] at R
  clear hr
  have hb : Below (w.heap.size + 1) (w.alloc (.cells zc 49)) (w.alloc (.cells zc 49)) := Below.refl _ _
  have HBW : Hid (Below w.heap.size w (w.alloc (.cells zc 49))) := below_box _ _ hb
  clear hb
  go_enter Try.func22, Try.ntmps22
  go_wp2_with (go_at_call 39; (with_reducible refine (R _).mono ?_); rintro e w' ⟨rfl, rfl⟩)
  exact bodyPost_ret (v := .tuple #[.agg #[.int .i64 0, .int .i64 0, .int .i64 0, .int .i64 0, .int .i64 0, .bool false, .bool false, .string ⟨#[]⟩], .int .i64 3]) (by simp [results, Try.results22, go_sem]) rfl ⟨rfl, HBW.out⟩

theorem rread_any (W : Nat) (hW : W < 18446744073709551616) (w : World) :
    Calls Try.prog 22 #[.int .u64 W] w fun e w' => e = .returned (.tuple #[flv (readR W).1, .int .i64 (readR W).2]) ∧ Below w.heap.size w w' := by
  by_cases hr : sealN W = W
  · by_cases h1 : W % 4 = 1
    · have e : vals W 0 hs = [getV W 0 2, getV W 2 12, getV W 14 12, getV W 26 16, getV W 42 7, getV W 49 1, getV W 50 1] := rfl
      have hd : dec W = ⟨1, getV W 2 12, getV W 14 12, getV W 26 16, getV W 42 7, (getV W 49 1 : Int) == 1, (getV W 50 1 : Int) == 1, ⟨#[]⟩⟩ := by
        unfold dec decH
        rw [if_pos h1, e, beq_one, beq_one]
        rfl
      refine (rread_head W _ _ _ _ _ _ _ (dec W) (dec W).wordR.1 (dec W).wordR.2 hW hr h1 e hd (fun w => rwrite_any (dec W) w) w).mono ?_
      rintro e w' ⟨rfl, hb⟩
      refine ⟨?_, hb⟩
      rw [← readR_yes hr]
      split <;> rfl
    · have hk : W % 4 < 4 := Nat.mod_lt _ (by decide)
      have hn7 := len3 W
      by_cases h6 : getV W 2 3 ≤ 6
      · have H := fun D hD a e1 E => rread_data W (W % 4) (getV W 2 3) (getV W 2 3) (vals W 5 (List.replicate (getV W 2 3) 8)) D a e1 hW hr rfl h1 rfl (Or.inl ⟨h6, rfl⟩) hn7 (by rw [vals_len]; simp) (vals8 W _ _)
          (fun j hj => vals_getD W _ _ j hj) hD E w
        by_cases h0 : W % 4 = 0
        · refine (H _ rfl _ _ (fun w => rwrite_any _ w)).mono ?_
          rintro e w' ⟨rfl, hb⟩
          refine ⟨?_, hb⟩
          have hz : dec W = zf := by unfold dec; rw [if_neg h1, if_pos h0]
          rw [readR_two hr (fun c => by
            obtain ⟨h, _⟩ := wordR_yes c rfl
            rw [hz] at h
            have := right_k h
            simp at this), if_neg (fun c => by
            obtain ⟨h, _⟩ := wordR_yes2 c.2
            have := right_k h
            simp only at this
            omega)]
          rfl
        · have hd : dec W = ⟨(W % 4 : Nat), 0, 0, 0, 0, false, false, ofB (vals W 5 (List.replicate (getV W 2 3) 8))⟩ := by
            unfold dec decD
            rw [if_neg h1, if_neg h0, decD_vals]
            rfl
          refine (H (dec W) hd _ _ (fun w => rwrite_any _ w)).mono ?_
          rintro e w' ⟨rfl, hb⟩
          refine ⟨?_, hb⟩
          rw [← readR_yes hr]
          split <;> rfl
      · have hn : getV W 2 3 = 7 := by omega
        have hl6 : (vals W 5 (List.replicate 6 8)).length = 6 := by rw [vals_len]; rfl
        refine (rread_data W (W % 4) (getV W 2 3) 6 (vals W 5 (List.replicate 6 8)) _ _ _ hW hr rfl h1 rfl (Or.inr ⟨by omega, rfl⟩) hn7 hl6 (vals8 W _ _)
          (fun j hj => vals_getD W _ _ j hj) rfl (fun w => rwrite_any _ w) w).mono ?_
        rintro e w' ⟨rfl, hb⟩
        refine ⟨?_, hb⟩
        have h7 : (dec W).wordR ≠ (W, 0) := fun c => by
          obtain ⟨h, hw⟩ := wordR_yes c rfl
          by_cases hk1 : (dec W).k = 1
          · have := word_kind h
            rw [hw, hk1] at this
            omega
          · have := word_len h hk1
            rw [hw, hn] at this
            have := right_size h hk1
            omega
        rw [readR_two hr h7, if_neg (fun c => by
          obtain ⟨h, hw⟩ := wordR_yes2 c.2
          have := word_len h (by show ¬ ((W % 4 : Nat) : Int) = 1; omega)
          rw [hw, c.1, hn] at this
          have h2 : (ofB (vals W 5 (List.replicate 6 8))).size = 6 := by rw [ofB_size, hl6]
          simp only at this
          omega)]
        rfl
  · have : readR W = (zf, 3) := by unfold readR; rw [if_neg hr]
    rw [this]
    exact rread_sum W hW hr w
end Go.Proofs.Ytkigeakaedkjpaa
