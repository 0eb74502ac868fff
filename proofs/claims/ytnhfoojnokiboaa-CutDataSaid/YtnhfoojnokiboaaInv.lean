/-
  A region that draws its order, walked by an invariant: each operation is looked at once, whatever came before it. No function in it.
-/
import Derived.Test.YtnhfoojnokiboaaStage
namespace Go.Proofs.Ytnhfoojnokiboaa

section
variable {P : Program} {ops : Array Oper} {Q : Exit → Act → World → Prop} {md : Region.Mode}

/-- How many have not come up. -/
def leftOf (listed : Array Bool) : Nat := listed.toList.count false
theorem leftOf_pos {listed : Array Bool} {i : Nat} (h : listed.getD i true = false) : leftOf (listed.setIfInBounds i true) + 1 ≤ leftOf listed := by
  unfold leftOf
  have hi : i < listed.size := by
    rcases Nat.lt_or_ge i listed.size with h' | h'
    · exact h'
    · simp [Array.getElem?_eq_none h'] at h
  have e : listed.toList[i]'(by simpa using hi) = false := by simpa [hi] using h
  rw [Array.toList_setIfInBounds, List.count_set (h := by simpa using hi), e]
  have : 0 < listed.toList.count false := List.count_pos_iff.2 (by rw [← e]; exact List.getElem_mem _)
  show listed.toList.count false - 1 + 0 + 1 ≤ listed.toList.count false
  omega
theorem leftOf_new (n : Nat) : leftOf (Array.replicate n false) = n := by unfold leftOf; simp

theorem wpAny_inv (I : Array Bool → Act → World → Prop) (D : Array Bool)
    (hstep : ∀ listed a w, I listed a w → listed ≠ D → ∀ i ∈ Region.ready md ops listed, wpOp P ops Q i (I (listed.setIfInBounds i true)) a w)
    (hgo : ∀ listed a w, I listed a w → listed ≠ D → Region.ready md ops listed ≠ [])
    (hD : ∀ a w, I D a w → ∀ fuel, leftOf D ≤ fuel → wpAny P md ops Q fuel D a w) :
    ∀ fuel listed a w, leftOf listed ≤ fuel → I listed a w → wpAny P md ops Q fuel listed a w := by
  intro fuel
  induction fuel with
  | zero =>
    intro listed a w hl hI
    by_cases h : listed = D
    · subst h; exact hD _ _ hI 0 hl
    · obtain ⟨i, hi⟩ := List.exists_mem_of_ne_nil _ (hgo _ _ _ hI h)
      have := leftOf_pos (mem_ready.1 hi).1
      omega
  | succ fuel ih =>
    intro listed a w hl hI
    by_cases h : listed = D
    · subst h; exact hD _ _ hI _ hl
    · refine ⟨fun h0 => absurd h0 (hgo _ _ _ hI h), fun i hi => wpOp_mono (fun a' w' h' => ih _ _ _ ?_ h') (hstep _ _ _ hI h i hi)⟩
      have := leftOf_pos (mem_ready.1 hi).1
      omega
/-- The beginning; I may name the slots as they stand (its first argument). -/
theorem wp_region_inv (I : Act → Array Bool → Act → World → Prop) (D : Array Bool) {id : Nat} {a : Act} {w : World} (hm : P.follows .mixedOrders = true)
    (h0 : I a (Array.replicate ops.size false) a w.drew)
    (hstep : ∀ listed a' w, I a listed a' w → listed ≠ D → ∀ i ∈ Region.ready .any ops listed, wpOp P ops Q i (I a (listed.setIfInBounds i true)) a' w)
    (hgo : ∀ listed a' w, I a listed a' w → listed ≠ D → Region.ready .any ops listed ≠ [])
    (hD : ∀ a' w, I a D a' w → ∀ fuel, leftOf D ≤ fuel → wpAny P .any ops Q fuel D a' w) : (Code.region id ops true).wp P Q a w :=
  wp_region_any hm (wpAny_inv (I a) D hstep hgo hD _ _ _ _ (Nat.le_of_eq (leftOf_new _)) h0)
theorem ready_split {listed : Array Bool} (f : Nat → Bool) {i : Nat} (hi : i ∈ Region.ready md ops listed) (h : (Region.ready md ops listed).all f = true) : f i = true := List.all_eq_true.1 h i hi
/-- One operation, its continuation shut. -/
theorem wpOp_one {i : Nat} {o : Oper} {K : Act → World → Prop} {a : Act} {w : World} (ho : ops[i]? = some o)
    (h : ∀ K' : Act → World → Prop, Shut (∀ a w, K a w → K' a w) → if Region.wanted o (yielded ops a.tmps) = true then Oper.wp P o a w K' Q else K' (a.put o.dst undef) w) : wpOp P ops Q i K a w :=
  wpOp_step ho fun K' hK => h K' (fun a w => hK a w)
end
end Go.Proofs.Ytnhfoojnokiboaa
