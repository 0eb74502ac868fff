/-
  A region that draws its order and ends in a store into a cell that it has loaded ('x.f = append(x.f, ..)'): loads may be taken first, by a condition S on the world that need hold only till that store (operation 'st') has come up. No function in it.
-/
import Derived.OrdersHeld
import Derived.Deep.RegionHeld3
namespace Go.Proofs.Ytpmkpjnhdehnhaa

section
variable {P : Program} {ops : Array Oper} {Q : Exit → Act → World → Prop} {md : Region.Mode} {S : World → Prop} {st : Nat}

/-- Whatever order is picked from here on; S holds behind every operation till 'st' has come up. -/
def wpAnyG (P : Program) (md : Region.Mode) (ops : Array Oper) (Q : Exit → Act → World → Prop) (S : World → Prop) (st : Nat) : Nat → Array Bool → Act → World → Prop
  | 0, listed, a, w => Region.ready md ops listed = [] ∧ Q .normal a w
  | fuel + 1, listed, a, w =>
    (Region.ready md ops listed = [] → Q .normal a w) ∧
    ∀ i ∈ Region.ready md ops listed, wpOp P ops Q i (fun a' w' => ((listed.setIfInBounds i true).getD st true = true ∨ S w') ∧ wpAnyG P md ops Q S st fuel (listed.setIfInBounds i true) a' w') a w

theorem wpAny_of_G : ∀ (fuel : Nat) (listed : Array Bool) (a : Act) (w : World), wpAnyG P md ops Q S st fuel listed a w → wpAny P md ops Q fuel listed a w
  | 0, _, _, _, h => h
  | fuel + 1, _, _, _, h => ⟨h.1, fun i hi => wpOp_mono (fun a' w' h' => wpAny_of_G fuel _ a' w' h'.2) (h.2 i hi)⟩

/-- One waits for the other: from the first of a path to its last; none but the first has come up. -/
def pathB (md : Region.Mode) (ops : Array Oper) (listed : Array Bool) : List Nat → Bool
  | x :: y :: r => ((ops[y]?).any fun o => o.after.any fun e => Region.binds md e && e.on == x) && (!(listed.getD y true) && pathB md ops listed (y :: r))
  | _ => true

/-- While the first of a path has not come up, none of it comes up next. -/
theorem path_keep {listed : Array Bool} {j : Nat} : ∀ (r : List Nat) (x : Nat), pathB md ops listed (x :: r) = true → listed.getD x true = false → j ∈ Region.ready md ops listed → j ≠ x →
    (∀ y ∈ r, j ≠ y) ∧ pathB md ops (listed.setIfInBounds j true) (x :: r) = true
  | [], _, _, _, _, _ => ⟨fun y hy => by (cases hy), rfl⟩
  | y :: r, x, h, hx, hj, hne => by
    unfold pathB at h
    simp only [Bool.and_eq_true, Bool.not_eq_true'] at h
    obtain ⟨h1, h2, h3⟩ := h
    have hjy : j ≠ y := by
      rintro rfl
      obtain ⟨_, oj, hoj, hall⟩ := mem_ready.1 hj
      rw [hoj] at h1
      simp only [Option.any_some, Array.any_eq_true'] at h1
      obtain ⟨e, he, hb⟩ := h1
      simp only [Bool.and_eq_true, beq_iff_eq] at hb
      have hl := hall e he hb.1
      rw [hb.2] at hl
      rcases Nat.lt_or_ge x listed.size with h' | h'
      · simp [h'] at hx hl; rw [hx] at hl; cases hl
      · simp [Array.getElem?_eq_none h'] at hl
    obtain ⟨k1, k2⟩ := path_keep r y h3 h2 hj hjy
    refine ⟨fun z hz => ?_, ?_⟩
    · rcases List.mem_cons.1 hz with rfl | hz
      · exact hjy
      · exact k1 z hz
    · unfold pathB
      rw [getD_set_ne true (Ne.symm (Ne.symm hjy))]
      simp only [Bool.and_eq_true, Bool.not_eq_true']
      exact ⟨h1, h2, k2⟩

theorem wpAnyG_first {i : Nat} {oi : Oper} {v : Value} (hi : ops[i]? = some oi) (hsel : ∀ (j : Nat) (o : Oper) cs b, ops[j]? = some o → o.op ≠ .select cs b)
    (hQ : ∀ c a w, Q (.panic c) (a.put oi.dst v) w → Q (.panic c) a w) (r : List Nat) (hst : r.getLast? = some st) :
    ∀ (fuel : Nat) (listed : Array Bool) (a : Act) (w : World),
      (∀ j oj, ops[j]? = some oj → j ≠ i → listed.getD j true = false → (∀ e ∈ oj.after, Region.binds md e = true → e.on ≠ i) → oi.apart ops oj = true) →
      i ∈ Region.ready md ops listed → pathB md ops listed (i :: r) = true → listed.getD st true = false → i ≠ st → YieldsIf P ops S oi v a → S w →
      wpAnyG P md ops Q S st fuel (listed.setIfInBounds i true) (a.put oi.dst v) w → wpAnyG P md ops Q S st (fuel + 1) listed a w := by
  have hmem : st ∈ r := by
    have := List.mem_of_getLast? hst
    exact this
  intro fuel
  induction fuel with
  | zero =>
    intro listed a w _ hr _ _ _ hy hS H
    refine ⟨fun h => (by rw [h] at hr; cases hr), fun j hj => ?_⟩
    by_cases hji : j = i
    · subst hji; exact hy.wpOp hi hS ⟨Or.inr hS, H⟩
    · have := ready_mono hj hji
      rw [H.1] at this
      cases this
  | succ fuel ih =>
    intro listed a w hfree hr hp hs hist hy hS H
    refine ⟨fun h => (by rw [h] at hr; cases hr), fun j hj => ?_⟩
    by_cases hji : j = i
    · subst hji; exact hy.wpOp hi hS ⟨Or.inr hS, H⟩
    · have h1 := H.2 j (ready_mono hj hji)
      obtain ⟨hjun, oj, hoj, hall⟩ := mem_ready.1 hj
      have hiun : listed.getD i true = false := (mem_ready.1 hr).1
      have hnot : ∀ e ∈ oj.after, Region.binds md e = true → e.on ≠ i := fun e he hb heq => by
        have h1 := hall e he hb
        have h0 := (mem_ready.1 hr).1
        rw [heq] at h1
        rcases Nat.lt_or_ge i listed.size with h' | h'
        · simp [h'] at h0 h1; rw [h0] at h1; cases h1
        · simp [Array.getElem?_eq_none h'] at h1
      obtain ⟨hkeep, hp'⟩ := path_keep r i hp hiun hj hji
      have hjst : j ≠ st := hkeep st hmem
      have hs' : (listed.setIfInBounds j true).getD st true = false := by rw [getD_set_ne true hjst]; exact hs
      have h2 := wpOp_putIf hoj (hfree j oj hoj hji hjun hnot) (fun cs b => hsel i oi cs b hi) (fun cs b => hsel j oj cs b hoj) hQ hy h1
      have hfree' : ∀ k ok, ops[k]? = some ok → k ≠ i → (listed.setIfInBounds j true).getD k true = false →
          (∀ e ∈ ok.after, Region.binds md e = true → e.on ≠ i) → oi.apart ops ok = true := fun k ok hk hki hun hno => by
        refine hfree k ok hk hki ?_ hno
        by_cases hjk : j = k
        · subst hjk; exact hjun
        · rw [getD_set_ne true hjk] at hun; exact hun
      refine wpOp_mono (fun a' w' h3 => ?_) h2
      have hS' : S w' := by
        rcases h3.2.1 with h4 | h4
        · rw [getD_set_ne true hjst, getD_set_ne true hist] at h4
          rw [hs] at h4
          cases h4
        · exact h4
      refine ⟨Or.inr hS', ih (listed.setIfInBounds j true) a' w' hfree' (ready_mono hr (Ne.symm hji)) hp' hs' hist h3.1 hS' ?_⟩
      rw [Array.setIfInBounds_comm _ _ hji]
      exact h3.2.2

/-- Take number i first: it yields v in every world that meets S, and 'st' waits for it, by a path. -/
theorem wpAnyG_take (r : List Nat) (d : Option Tmp) {i : Nat} {oi : Oper} {v : Value} {fuel : Nat} {listed : Array Bool} {a : Act} {w : World} (hi : ops[i]? = some oi) (hd : oi.dst = d)
    (hs : Region.noSelect ops = true) (hf : Region.free md ops listed i = true) (hr : (Region.ready md ops listed).contains i = true)
    (hp : (pathB md ops listed (i :: r) && (r.getLast? == some st && (!(listed.getD st true) && !(i == st)))) = true)
    (hQ : ∀ c a w, Q (.panic c) (a.put d v) w → Q (.panic c) a w) (hy : YieldsIf P ops S oi v a) (hS : S w)
    (h : wpAnyG P md ops Q S st fuel (listed.setIfInBounds i true) (a.put d v) w) : wpAnyG P md ops Q S st (fuel + 1) listed a w := by
  subst hd
  simp only [Bool.and_eq_true, Bool.not_eq_true', beq_iff_eq, beq_eq_false_iff_ne] at hp
  obtain ⟨h1, h2, h3, h4⟩ := hp
  exact wpAnyG_first hi (Region.noSelect_spec hs) hQ r h2 fuel listed a w (Region.free_spec hi hf) (by simpa using hr) h1 h3 h4 hy hS h

/-- Whichever comes up: here it is one alone. -/
theorem wpAnyG_one {i : Nat} {o : Oper} {fuel : Nat} {listed : Array Bool} {a : Act} {w : World} (hr : Region.ready md ops listed = [i]) (ho : ops[i]? = some o)
    (h : ∀ K' : Act → World → Prop, Shut (∀ a w, ((listed.setIfInBounds i true).getD st true = true ∨ S w) → wpAnyG P md ops Q S st fuel (listed.setIfInBounds i true) a w → K' a w) → if Region.wanted o (yielded ops a.tmps) = true then Oper.wp P o a w K' Q else K' (a.put o.dst undef) w) :
    wpAnyG P md ops Q S st (fuel + 1) listed a w := by
  refine ⟨fun h0 => (by rw [hr] at h0; cases h0), fun j hj => ?_⟩
  rw [hr, List.mem_singleton] at hj
  subst hj
  exact wpOp_step ho (fun K' hK => h K' (fun a w hS hW => hK a w ⟨hS, hW⟩))
theorem wpAnyG_done {listed : Array Bool} {a : Act} {w : World} (hr : Region.ready md ops listed = []) (h : Q .normal a w) : ∀ fuel, wpAnyG P md ops Q S st fuel listed a w
  | 0 => ⟨hr, h⟩
  | _ + 1 => ⟨fun _ => h, by rw [hr]; simp⟩
/-- The beginning. -/
theorem wp_region_G (S : World → Prop) (st : Nat) {id : Nat} {a : Act} {w : World} (hm : P.follows .mixedOrders = true)
    (h : wpAnyG P .any ops Q S st ops.size (Array.replicate ops.size false) a w.drew) : (Code.region id ops true).wp P Q a w :=
  wp_region_any hm (wpAny_of_G _ _ _ _ h)
end
end Go.Proofs.Ytpmkpjnhdehnhaa
