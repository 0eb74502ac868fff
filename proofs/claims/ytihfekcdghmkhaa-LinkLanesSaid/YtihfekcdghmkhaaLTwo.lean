/-
  A ring of numbers and a ring of words (each made by ring.New, behind a pointer) beside other blocks X of one object: what a step of either leaves. No function in it.
-/
import Derived.Test.YtihfekcdghmkhaaRiStep
import Derived.Test.YtihfekcdghmkhaaRcStep
import Derived.Test.YtihfekcdghmkhaaLFp
namespace Go.Proofs.Ytihfekcdghmkhaa
open Go.RowKit
open RC (Cl)

/-- Two rings, apart from one another and from X. -/
structure Two (w : World) (bi pi mi : Nat) (si : RI.RingSt) (bw pw mw : Nat) (sw : RC.RingSt) (X : Nat → Prop) : Prop where
  ri : RI.RingAt w bi pi mi si
  rc : RC.RingAt w bw pw mw sw
  ne : bi ≠ bw ∧ bi ≠ pw ∧ pi ≠ bw ∧ pi ≠ pw
  xi : ¬ X bi ∧ ¬ X pi
  xw : ¬ X bw ∧ ¬ X pw
  xl : ∀ g, X g → g < w.heap.size
/-- All blocks of the object. -/
def fp (bi pi bw pw : Nat) (X : Nat → Prop) : Nat → Prop := fun g => g = bi ∨ g = pi ∨ g = bw ∨ g = pw ∨ X g
theorem Two.lt {w : World} {bi pi mi : Nat} {si : RI.RingSt} {bw pw mw : Nat} {sw : RC.RingSt} {X : Nat → Prop} (h : Two w bi pi mi si bw pw mw sw X) : ∀ g, fp bi pi bw pw X g → g < w.heap.size := by
  rintro g (rfl | rfl | rfl | rfl | hx)
  · exact h.ri.lt.1
  · exact h.ri.lt.2
  · exact h.rc.lt.1
  · exact h.rc.lt.2
  · exact h.xl g hx
/-- The object's blocks are as they were. -/
theorem Two.keep {w w' : World} {bi pi mi : Nat} {si : RI.RingSt} {bw pw mw : Nat} {sw : RC.RingSt} {X : Nat → Prop} (h : Two w bi pi mi si bw pw mw sw X) (hs : w.heap.size ≤ w'.heap.size) (hk : ∀ g, g = bi ∨ g = pi ∨ g = bw ∨ g = pw → w'.heap[g]? = w.heap[g]?) : Two w' bi pi mi si bw pw mw sw X :=
  ⟨h.ri.keep (hk _ (Or.inl rfl)) (hk _ (Or.inr (Or.inl rfl))), h.rc.keep (hk _ (Or.inr (Or.inr (Or.inl rfl)))) (hk _ (Or.inr (Or.inr (Or.inr rfl)))), h.ne, h.xi, h.xw, fun g hg => Nat.lt_of_lt_of_le (h.xl g hg) hs⟩
theorem Two.below {w w' : World} {bi pi mi : Nat} {si : RI.RingSt} {bw pw mw : Nat} {sw : RC.RingSt} {X : Nat → Prop} (h : Two w bi pi mi si bw pw mw sw X) (hb : Below w.heap.size w w') : Two w' bi pi mi si bw pw mw sw X :=
  h.keep hb.size fun g hg => hb.block g (h.lt g (by rcases hg with e | e | e | e <;> simp [fp, e]))
/-- A cell of X is stored. -/
theorem Two.set {w : World} {bi pi mi : Nat} {si : RI.RingSt} {bw pw mw : Nat} {sw : RC.RingSt} {X : Nat → Prop} {k j : Nat} {x : Value} (h : Two w bi pi mi si bw pw mw sw X) (hk : X k) : Two (w.setCell ⟨k, j, none⟩ x) bi pi mi si bw pw mw sw X :=
  h.keep (by simp) fun g hg => Below.heap_setCell w ⟨k, j, none⟩ x g (by
    show g ≠ k
    rintro rfl
    rcases hg with rfl | rfl | rfl | rfl
    · exact h.xi.1 hk
    · exact h.xi.2 hk
    · exact h.xw.1 hk
    · exact h.xw.2 hk)
theorem Two.gr_set {w : World} {bi pi mi : Nat} {si : RI.RingSt} {bw pw mw : Nat} {sw : RC.RingSt} {X : Nat → Prop} {k j : Nat} {x : Value} (_h : Two w bi pi mi si bw pw mw sw X) (hk : X k) : Gr (fp bi pi bw pw X) w (w.setCell ⟨k, j, none⟩ x) (fp bi pi bw pw X) :=
  ⟨rfl, rfl, rfl, by simp, fun g _ hg => Below.heap_setCell w ⟨k, j, none⟩ x g (by show g ≠ k; rintro rfl; exact hg (Or.inr (Or.inr (Or.inr (Or.inr hk))))), fun _ h => Or.inl h⟩
/-- A step of the ring of numbers. -/
theorem Two.stepI {w w' : World} {bi pi mi : Nat} {si si' : RI.RingSt} {bw pw mw : Nat} {sw : RC.RingSt} {X : Nat → Prop} (h : Two w bi pi mi si bw pw mw sw X) (s : RI.Stp bi pi w w' si') :
    ∃ pi' mi', Two w' bi pi' mi' si' bw pw mw sw X ∧ Gr (fp bi pi bw pw X) w w' (fp bi pi' bw pw X) ∧ ∀ g, X g → w'.heap[g]? = w.heap[g]? := by
  obtain ⟨p', m', hr, hf, hp⟩ := s
  obtain ⟨n1, n2, n3, n4⟩ := h.ne
  have l1 := h.rc.lt
  have kept : ∀ g, X g → w'.heap[g]? = w.heap[g]? := fun g hg => hf.block g (h.xl g hg) (fun e => h.xi.1 (e ▸ hg)) (fun e => h.xi.2 (e ▸ hg))
  refine ⟨p', m', ⟨hr, h.rc.keep (hf.block _ l1.1 (fun e => n1 e.symm) (fun e => n3 e.symm)) (hf.block _ l1.2 (fun e => n2 e.symm) (fun e => n4 e.symm)), ⟨n1, n2, ?_, ?_⟩, ⟨h.xi.1, ?_⟩, h.xw, fun g hg => Nat.lt_of_lt_of_le (h.xl g hg) hf.size⟩, ⟨hf.os, hf.tape, hf.output, hf.size, fun g hg hn => hf.block g hg (fun e => hn (Or.inl e)) (fun e => hn (Or.inr (Or.inl e))), ?_⟩, kept⟩
  · rcases hp with rfl | hp
    · exact n3
    · omega
  · rcases hp with rfl | hp
    · exact n4
    · omega
  · rcases hp with rfl | hp
    · exact h.xi.2
    · exact fun hx => by have := h.xl _ hx; omega
  · rintro g (e | e | e | e | e)
    · exact Or.inl (Or.inl e)
    · rcases hp with hp | hp
      · exact Or.inl (Or.inr (Or.inl (e.trans hp)))
      · exact Or.inr (e ▸ hp)
    · exact Or.inl (Or.inr (Or.inr (Or.inl e)))
    · exact Or.inl (Or.inr (Or.inr (Or.inr (Or.inl e))))
    · exact Or.inl (Or.inr (Or.inr (Or.inr (Or.inr e))))
/-- A step of the ring of words. -/
theorem Two.stepC {w w' : World} {bi pi mi : Nat} {si : RI.RingSt} {bw pw mw : Nat} {sw sw' : RC.RingSt} {X : Nat → Prop} (h : Two w bi pi mi si bw pw mw sw X) (s : RC.Stp bw pw w w' sw') :
    ∃ pw' mw', Two w' bi pi mi si bw pw' mw' sw' X ∧ Gr (fp bi pi bw pw X) w w' (fp bi pi bw pw' X) ∧ ∀ g, X g → w'.heap[g]? = w.heap[g]? := by
  obtain ⟨p', m', hr, hf, hp⟩ := s
  obtain ⟨n1, n2, n3, n4⟩ := h.ne
  have l1 := h.ri.lt
  have kept : ∀ g, X g → w'.heap[g]? = w.heap[g]? := fun g hg => hf.block g (h.xl g hg) (fun e => h.xw.1 (e ▸ hg)) (fun e => h.xw.2 (e ▸ hg))
  refine ⟨p', m', ⟨h.ri.keep (hf.block _ l1.1 n1 n2) (hf.block _ l1.2 n3 n4), hr, ⟨n1, ?_, n3, ?_⟩, h.xi, ⟨h.xw.1, ?_⟩, fun g hg => Nat.lt_of_lt_of_le (h.xl g hg) hf.size⟩, ⟨hf.os, hf.tape, hf.output, hf.size, fun g hg hn => hf.block g hg (fun e => hn (Or.inr (Or.inr (Or.inl e)))) (fun e => hn (Or.inr (Or.inr (Or.inr (Or.inl e))))), ?_⟩, kept⟩
  · rcases hp with rfl | hp
    · exact n2
    · omega
  · rcases hp with rfl | hp
    · exact n4
    · omega
  · rcases hp with rfl | hp
    · exact h.xw.2
    · exact fun hx => by have := h.xl _ hx; omega
  · rintro g (e | e | e | e | e)
    · exact Or.inl (Or.inl e)
    · exact Or.inl (Or.inr (Or.inl e))
    · exact Or.inl (Or.inr (Or.inr (Or.inl e)))
    · rcases hp with hp | hp
      · exact Or.inl (Or.inr (Or.inr (Or.inr (Or.inl (e.trans hp)))))
      · exact Or.inr (e ▸ hp)
    · exact Or.inl (Or.inr (Or.inr (Or.inr (Or.inr e))))
/-- A ring's step out of a taking. -/
theorem RI.Stp.of {b pb m : Nat} {w w' : World} {s' : RI.RingSt} (h : RI.RingAt w' b pb m s') (f : RI.Fr b pb w w') : RI.Stp b pb w w' s' := ⟨pb, m, h, f, Or.inl rfl⟩
theorem RC.Stp.of {b pb m : Nat} {w w' : World} {s' : RC.RingSt} (h : RC.RingAt w' b pb m s') (f : RC.Fr b pb w w') : RC.Stp b pb w w' s' := ⟨pb, m, h, f, Or.inl rfl⟩
end Go.Proofs.Ytihfekcdghmkhaa
