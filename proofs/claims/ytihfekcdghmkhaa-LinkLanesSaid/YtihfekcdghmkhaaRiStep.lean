/-
  Each call of a ring as one contract with plain functions on the state.
-/
import Derived.Test.YtihfekcdghmkhaaRiPush
namespace Go.Proofs.Ytihfekcdghmkhaa.RI
open Go.RowKit

def layE (s : RingSt) : Int := if s.laid then 13 else if s.free = 0 then 7 else 0
def layS (s : RingSt) (v : Int) : RingSt := if layE s = 0 then s.lay v else s
def pubE (s : RingSt) : Int := if s.laid then 0 else 13
def pubS (s : RingSt) : RingSt := if s.laid then s.published else s
def pushS (s : RingSt) (v : Int) : RingSt := if layE s = 0 then (s.lay v).published else s
def peekV (s : RingSt) : Int := s.xs.headD 0
def peekE (s : RingSt) : Int := if s.xs = [] then 8 else 0
def freeS (s : RingSt) : RingSt := if s.xs = [] then s else s.freed

theorem Fr.grown {b pb : Nat} {x y z : World} {row : Option Nat} (h : Fr b pb x y) (hg : y.grownBy z row) (hr : ∀ k, row = some k → x.heap.size ≤ k) : Fr b pb x z :=
  ⟨hg.os.trans h.os, hg.tape.trans h.tape, hg.output.trans h.output, Nat.le_trans h.size hg.size, fun k hk h1 h2 => by
    have := h.size
    rw [hg.block k (by omega) (fun e => by have := hr k e.symm; omega), h.block k hk h1 h2]⟩

section
variable {w : World} {b pb m : Nat} {s : RingSt}

theorem free_pos (h : RingAt w b pb m s) (hla : s.laid = false) (hf : ¬ s.free = 0) : (s.xs.length : Int) < min (max s.room 1) 4096 := by
  have := h.1.hcap
  rw [RingSt.free] at hf
  rw [hla] at this hf
  simp only [one] at this hf
  simp at this hf
  omega

theorem ring_lay (h : RingAt w b pb m s) (v : Int) :
    Calls Try.prog 52 #[.pointer (some ⟨b, 0, none⟩), .int .i64 v] w fun e w' => e = .returned (.int .i64 (layE s)) ∧ Stp b pb w w' (layS s v) := by
  cases hla : s.laid
  · by_cases hf : s.free = 0
    · have e1 : layE s = 7 := by simp [layE, hla, hf]
      have e2 : layS s v = s := by simp [layS, e1]
      refine (lay_full h hla hf v).mono ?_
      rintro e w' ⟨rfl, n, rfl⟩
      rw [e1, e2]
      exact ⟨rfl, Stp.ofDrew h n⟩
    · have e1 : layE s = 0 := by simp [layE, hla, hf]
      have e2 : layS s v = s.lay v := by simp [layS, e1]
      refine (lay_ok h hla (free_pos h hla hf) v).mono ?_
      rintro e w' ⟨rfl, h2⟩
      rw [e1, e2]
      exact ⟨rfl, h2⟩
  · have e1 : layE s = 13 := by simp [layE, hla]
    have e2 : layS s v = s := by simp [layS, e1]
    refine (lay_laid h hla v).mono ?_
    rintro e w' ⟨rfl, rfl⟩
    rw [e1, e2]
    exact ⟨rfl, Stp.ofSame h⟩

theorem ring_publish (h : RingAt w b pb m s) :
    Calls Try.prog 53 #[.pointer (some ⟨b, 0, none⟩)] w fun e w' => e = .returned (.int .i64 (pubE s)) ∧ Stp b pb w w' (pubS s) := by
  cases hla : s.laid
  · refine (ring_publish_none h hla).mono ?_
    rintro e w' ⟨rfl, rfl⟩
    simp only [pubE, pubS, hla]
    exact ⟨rfl, Stp.ofSame h⟩
  · refine (ring_publish_some h hla).mono ?_
    rintro e w' ⟨rfl, h1, h2⟩
    simp only [pubE, pubS, hla]
    exact ⟨rfl, pb, m, h1, h2, Or.inl rfl⟩

theorem ring_free (h : RingAt w b pb m s) :
    Calls Try.prog 55 #[.pointer (some ⟨b, 0, none⟩)] w fun e w' => e = .returned (.int .i64 (peekE s)) ∧ ∃ n, RingAt w' b pb m (freeS s) ∧ Fr b pb w w' ∧ (s.xs = [] → w' = w.drewN n) := by
  cases hx : s.xs with
  | nil =>
    refine (ring_free_none h hx).mono ?_
    rintro e w' ⟨rfl, n, rfl⟩
    simp only [peekE, freeS, hx]
    exact ⟨rfl, n, h.drewN n, (Fr.refl _ _ _).drewN n, fun _ => rfl⟩
  | cons x r =>
    refine (ring_free_some h hx).mono ?_
    rintro e w' ⟨rfl, h1, h2⟩
    simp only [peekE, freeS, hx]
    exact ⟨rfl, 0, h1, h2, fun c => by cases c⟩

theorem ring_peek (h : RingAt w b pb m s) :
    Calls Try.prog 54 #[.pointer (some ⟨b, 0, none⟩)] w fun e w' => e = .returned (.tuple #[.int .i64 (peekV s), .int .i64 (peekE s)]) ∧ ∃ n, w' = w.drewN n := by
  cases hx : s.xs with
  | nil =>
    refine (ring_peek_none h hx).mono ?_
    rintro e w' ⟨rfl, h⟩
    simp only [peekE, peekV, hx]
    exact ⟨rfl, h⟩
  | cons x r =>
    refine (ring_peek_some h hx).mono ?_
    rintro e w' ⟨rfl, h1⟩
    simp only [peekE, peekV, hx]
    exact ⟨rfl, h1⟩

theorem ring_pop (h : RingAt w b pb m s) :
    Calls Try.prog 44 #[.pointer (some ⟨b, 0, none⟩)] w fun e w' => e = .returned (.tuple #[.int .i64 (peekV s), .int .i64 (peekE s)]) ∧ RingAt w' b pb m (freeS s) ∧ Fr b pb w w' := by
  have K := ring_peek h
  have F := fun n => ring_free (h.drewN n)
  by_cases hx : s.xs = []
  · have e1 : peekE s = 8 := by simp [peekE, hx]
    have e2 : freeS s = s := by simp [freeS, hx]
    rw [e1] at K ⊢
    rw [e2]
    clear F e1 e2 hx
    generalize peekV s = v at *
    have HH : Hid (RingAt w b pb m s) := h
    clear h
    go_enter Try.func44, Try.ntmps44
    go_wp2_with (go_at_call 54; refine K.mono ?_; rintro e w' ⟨rfl, n, rfl⟩)
    go_ret2
    exact ⟨rfl, HH.out.drewN n, (Fr.refl _ _ _).drewN n⟩
  · have e1 : peekE s = 0 := by simp [peekE, hx]
    rw [e1] at K F ⊢
    clear e1 hx
    generalize peekV s = v at *
    generalize freeS s = s' at *
    have HH : Hid (RingAt w b pb m s) := h
    clear h
    go_enter Try.func44, Try.ntmps44
    go_wp2_with (first
      | (go_at_call 54; refine K.mono ?_; rintro e w' ⟨rfl, n, rfl⟩)
      | (go_at_call 55; refine (F _).mono ?_; rintro e w' ⟨rfl, n2, hR, hF, _⟩))
    go_ret2
    exact ⟨rfl, hR, ⟨hF.os, hF.tape, hF.output, hF.size, hF.block⟩⟩

theorem ring_push (h : RingAt w b pb m s) (v : Int) :
    Calls Try.prog 43 #[.pointer (some ⟨b, 0, none⟩), .int .i64 v] w fun e w' => e = .returned (.int .i64 (layE s)) ∧ Stp b pb w w' (pushS s v) := by
  have K := ring_lay h v
  by_cases h0 : layE s = 0
  · have e1 : pushS s v = (s.lay v).published := by simp [pushS, h0]
    have e2 : layS s v = s.lay v := by simp [layS, h0]
    have e3 : pubS (s.lay v) = (s.lay v).published := by simp [pubS, RingSt.lay]
    have e4 : pubE (s.lay v) = 0 := by simp [pubE, RingSt.lay]
    rw [h0, e2] at K
    rw [e1, h0, ← e3]
    have HE : Hid (pubE (s.lay v) = 0) := e4
    clear h0 e1 e2 e3 e4
    generalize s.lay v = s1 at *
    clear h
    go_enter Try.func43, Try.ntmps43
    go_wp2_with (go_at_call 52; refine K.mono ?_; rintro e w' ⟨rfl, pb', m', hR, hF, hP⟩)
    go_at_call 53
    refine (ring_publish hR).mono ?_
    rintro e w' ⟨rfl, pb2, m2, hR2, hF2, hP2⟩
    rw [HE.out]
    have hS : Stp b pb w w' (pubS s1) := ⟨pb2, m2, hR2, hF.trans hF2 hP, by have := hF.size; omega⟩
    clear hR hF hP hR2 hF2 hP2
    go_wp2
    go_ret
    exact ⟨rfl, hS⟩
  · have e1 : pushS s v = s := by simp [pushS, h0]
    have e2 : layS s v = s := by simp [layS, h0]
    rw [e2] at K
    rw [e1]
    have h1 : (layE s == 0) = false := by simpa using h0
    have h2 : (layE s != 0) = true := by simpa using h0
    clear e1 e2 h h0
    generalize layE s = er at *
    go_enter Try.func43, Try.ntmps43
    go_wp2_with (go_at_call 52; refine K.mono ?_; rintro e w' ⟨rfl, hS⟩)
    go_ret
    exact ⟨rfl, hS⟩

end
end Go.Proofs.Ytihfekcdghmkhaa.RI
