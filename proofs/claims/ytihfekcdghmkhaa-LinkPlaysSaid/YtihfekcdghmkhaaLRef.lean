/-
  The document's link by its steps: Send, Carry, Taken, Credit, whatever comes.
-/
import Derived.Test.YtihfekcdghmkhaaLPlain
import Derived.Test.YtihfekcdghmkhaaLSend
import Derived.Test.YtihfekcdghmkhaaLTaken
import Derived.Test.YtihfekcdghmkhaaLCarry
namespace Go.Proofs.Ytihfekcdghmkhaa
open Go.RowKit
open RC (Cl cc cv zc cc_len cc_at)

section
variable {S : LS} {v : Value} {w : World}
theorem rsend (h : Ok S) (hv : RefAt w v S) (k x : Int) : Calls Try.prog 34 #[v, cv ⟨k, x⟩] w fun e w' => ∃ v', e = .returned (.tuple #[v', .int .i64 (sendF S k x).2]) ∧ RefAt w' v' (sendF S k x).1 ∧ Below w.heap.size w w' ∧ Src w.heap.size w'.heap.size v v' := by
  have hwl := h.wl
  have hr64 := h.r64
  by_cases hk : inL S k = true
  · obtain ⟨q, rfl, hq⟩ := inL_nat hk
    have hs := h.sum q hq
    have hd := h.d64
    have hc : q < S.cr.length := by rw [h.cl]; exact hq
    by_cases hz : S.cr.getD q 0 = 0
    · have e : sendF S (q : Int) x = (S, 8) := by unfold sendF; rw [if_pos hk, Int.toNat_natCast, if_pos hz]
      rw [e]
      refine (send_empty S v q x w hv hq hc hz).mono ?_
      rintro e w' ⟨rfl, hb⟩
      exact ⟨v, rfl, hv.below hb, hb, Src.refl _ _ _⟩
    by_cases hf : S.r ≤ S.ws.length
    · have e : sendF S (q : Int) x = (S, 7) := by unfold sendF; rw [if_pos hk, Int.toNat_natCast, if_neg hz, if_pos hf]
      rw [e]
      refine (send_full S v q x w hv hq hc hz hf).mono ?_
      rintro e w' ⟨rfl, hb⟩
      exact ⟨v, rfl, hv.below hb, hb, Src.refl _ _ _⟩
    · have e : sendF S (q : Int) x = (putS S q x, 0) := by unfold sendF; rw [if_pos hk, Int.toNat_natCast, if_neg hz, if_neg hf]
      rw [e]
      refine (send_ok S v q x w hv hq hc (by rw [h.cl]; have := h.n8; omega) hz (by omega) hf (by omega)).mono ?_
      rintro e w' ⟨v', rfl, h1, h2, h3⟩
      exact ⟨v', rfl, h1, h2, h3⟩
  · have e : sendF S k x = (S, 1) := by unfold sendF; rw [if_neg hk]
    rw [e]
    refine (send_arg S v k x w hv (fun hh => hk (inL_iff.2 hh))).mono ?_
    rintro e w' ⟨rfl, hb⟩
    exact ⟨v, rfl, hv.below hb, hb, Src.refl _ _ _⟩
theorem rcarry (h : Ok S) (hv : RefAt w v S) : Calls Try.prog 35 #[v] w fun e w' => ∃ v', e = .returned (.tuple #[v', cv (carryF S).2.1, .int .i64 (carryF S).2.2]) ∧ RefAt w' v' (carryF S).1 ∧ Below w.heap.size w w' ∧ Src w.heap.size w'.heap.size v v' := by
  unfold carryF
  cases e : S.ws with
  | nil =>
    refine (carry_none S v w hv e).mono ?_
    rintro e w' ⟨rfl, hb⟩
    exact ⟨v, rfl, hv.below hb, hb, Src.refl _ _ _⟩
  | cons c t =>
    obtain ⟨k, x⟩ := c
    obtain ⟨q, hq, hqn⟩ := inL_nat (h.wi ⟨k, x⟩ (by rw [e]; exact List.mem_cons_self ..))
    simp only at hq
    subst hq
    have hs := h.sum q hqn
    have hd := h.d64
    refine (carry_some S v w hv q x t e (by rw [h.fl]; exact hqn) (by rw [h.fl]; have := h.n8; omega) (by omega)).mono ?_
    rintro e w' ⟨v', rfl, h1, h2, h3⟩
    exact ⟨v', rfl, h1, h2, h3⟩
theorem rtaken (h : Ok S) (hv : RefAt w v S) (k : Int) : Calls Try.prog 36 #[v, .int .i64 k] w fun e w' => ∃ v', e = .returned (.tuple #[v', .int .i64 (takenF S k).2]) ∧ RefAt w' v' (takenF S k).1 ∧ Below w.heap.size w w' ∧ Src w.heap.size w'.heap.size v v' := by
  by_cases hk : inL S k = true
  · obtain ⟨q, rfl, hq⟩ := inL_nat hk
    have hs := h.sum q hq
    have hd := h.d64
    have hc : q < S.far.length := by rw [h.fl]; exact hq
    by_cases hz : S.far.getD q 0 = 0
    · have e : takenF S (q : Int) = (S, 13) := by unfold takenF; rw [if_pos hk, Int.toNat_natCast, if_pos hz]
      rw [e]
      refine (taken_state S v q w hv hq hc hz).mono ?_
      rintro e w' ⟨rfl, hb⟩
      exact ⟨v, rfl, hv.below hb, hb, Src.refl _ _ _⟩
    · have e : takenF S (q : Int) = (backS S q, 0) := by unfold takenF; rw [if_pos hk, Int.toNat_natCast, if_neg hz]
      rw [e]
      have hb1 := h.bk_le
      have hb2 : S.n * S.d ≤ 8 * 64 := Nat.mul_le_mul h.n8 h.d64
      refine (taken_ok S v q w hv hq hc (by rw [h.fl]; have := h.n8; omega) hz (by omega) (by omega)).mono ?_
      rintro e w' ⟨v', rfl, h1, h2, h3⟩
      exact ⟨v', rfl, h1, h2, h3⟩
  · have e : takenF S k = (S, 1) := by unfold takenF; rw [if_neg hk]
    rw [e]
    refine (taken_arg S v k w hv (fun hh => hk (inL_iff.2 hh))).mono ?_
    rintro e w' ⟨rfl, hb⟩
    exact ⟨v, rfl, hv.below hb, hb, Src.refl _ _ _⟩
theorem rcredit (h : Ok S) (hv : RefAt w v S) : Calls Try.prog 37 #[v] w fun e w' => ∃ v', e = .returned (.tuple #[v', .int .i64 (creditF S).2]) ∧ RefAt w' v' (creditF S).1 ∧ Below w.heap.size w w' ∧ Src w.heap.size w'.heap.size v v' := by
  unfold creditF
  cases e : S.bk with
  | nil =>
    refine (cred_none S v w hv e).mono ?_
    rintro e w' ⟨rfl, hb⟩
    exact ⟨v, rfl, hv.below hb, hb, Src.refl _ _ _⟩
  | cons c t =>
    obtain ⟨q, rfl, hqn⟩ := inL_nat (h.bi c (by rw [e]; exact List.mem_cons_self ..))
    have hs := h.sum q hqn
    have hd := h.d64
    refine (cred_some S v w hv q t e (by rw [h.cl]; exact hqn) (by rw [h.cl]; have := h.n8; omega) (by omega)).mono ?_
    rintro e w' ⟨v', rfl, h1, h2, h3⟩
    exact ⟨v', rfl, h1, h2, h3⟩
end
end Go.Proofs.Ytihfekcdghmkhaa
