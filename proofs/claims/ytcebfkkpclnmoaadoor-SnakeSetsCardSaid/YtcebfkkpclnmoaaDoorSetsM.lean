/-
  A set and its ways, as plain mathematics. No function in it.
-/
import Derived.Test.YtcebfkkpclnmoaaDoorSMore
import Derived.Test.YtcebfkkpclnmoaaDoorAre
namespace Go.Proofs.YtcebfkkpclnmoaaDoor

theorem rest_snoc (ts w : List Int) (x : Int) : rest ts (w ++ [x]) = match rest ts w with | [] => [] | t :: r => if x = t then r else t :: r := by
  induction w generalizing ts with
  | nil =>
    cases ts with
    | nil => rfl
    | cons t r =>
      show (if x = t then rest r [] else rest (t :: r) []) = _
      split
      · rename_i h; cases r <;> simp [rest, h]
      · rename_i h; simp [rest, h]
  | cons y w ih =>
    cases ts with
    | nil => rw [List.cons_append, rest_nil, rest_nil]
    | cons t r =>
      show (if y = t then rest r (w ++ [x]) else rest (t :: r) (w ++ [x])) = match (if y = t then rest r w else rest (t :: r) w) with | [] => [] | t :: r => if x = t then r else t :: r
      split
      · exact ih r
      · exact ih (t :: r)

/-- How many of a row have come by, in their row. -/
def atS (P W : List Int) : Nat → Nat
  | 0 => 0
  | i + 1 => if atS P W i < P.length ∧ W.getD i 0 = P.getD (atS P W i) 0 then atS P W i + 1 else atS P W i
theorem atS_rest (P W : List Int) : ∀ i, i ≤ W.length → atS P W i ≤ P.length ∧ rest P (W.take i) = P.drop (atS P W i) := by
  intro i
  induction i with
  | zero => intro _; exact ⟨Nat.zero_le _, by cases P <;> rfl⟩
  | succ i ih =>
    intro hi
    obtain ⟨h1, h2⟩ := ih (by omega)
    have e : W.take (i + 1) = W.take i ++ [W.getD i 0] := by rw [getD_at (by omega), List.take_succ_eq_append_getElem (by omega)]
    rw [e, rest_snoc, h2]
    simp only [atS]
    by_cases hl : atS P W i < P.length
    · rw [List.drop_eq_getElem_cons hl, ← getD_at hl]
      by_cases hx : W.getD i 0 = P.getD (atS P W i) 0
      · rw [if_pos ⟨hl, hx⟩]
        simp only [hx, if_true]
        exact ⟨by omega, trivial⟩
      · rw [if_neg (fun h => hx h.2)]
        simp only [hx, if_false]
        exact ⟨h1, by rw [List.drop_eq_getElem_cons hl, getD_at hl]⟩
    · rw [if_neg (fun h => hl h.1)]
      have : P.drop (atS P W i) = [] := List.drop_eq_nil_of_le (by omega)
      rw [this]
      exact ⟨h1, rfl⟩
theorem atS_end {P W : List Int} (h : P.Sublist W) : atS P W W.length = P.length := by
  obtain ⟨h1, h2⟩ := atS_rest P W W.length (Nat.le_refl _)
  rw [List.take_length, rest_of h] at h2
  have := congrArg List.length h2
  rw [List.length_drop, List.length_nil] at this
  omega

/-- The three rows of a plan by their numbers. -/
def row3 {α : Type} (a b d : α) (k : Nat) : α := if k = 0 then a else if k = 1 then b else d
theorem row3_all {α : Type} {Q : Nat → α → Prop} {a b d : α} (h0 : Q 0 a) (h1 : Q 1 b) (h2 : Q 2 d) : ∀ k, k < 3 → Q k (row3 a b d k) := by
  intro k hk
  match k, hk with
  | 0, _ => exact h0
  | 1, _ => exact h1
  | 2, _ => exact h2
  | k + 3, h => omega

/-- How often a node is in the rows that have been seen. -/
def cnt3 (x : Int) (R : Nat → List Int) (k j : Nat) : Nat := (if 1 ≤ k then List.count x (R 0) else 0) + (if 2 ≤ k then List.count x (R 1) else 0) + (if 3 ≤ k then List.count x (R 2) else 0) + List.count x ((R k).take j)
theorem cnt3_next (x : Int) (R : Nat → List Int) (k : Nat) (hk : k < 3) : cnt3 x R k (R k).length = cnt3 x R (k + 1) 0 := by
  unfold cnt3
  rw [List.take_length, List.take_zero, List.count_nil]
  match k, hk with
  | 0, _ => simp
  | 1, _ => simp
  | 2, _ => simp
  | k + 3, h => omega
theorem cnt3_step (x : Int) (R : Nat → List Int) (k j : Nat) (hj : j < (R k).length) : cnt3 x R k (j + 1) = if (R k).getD j 0 = x then cnt3 x R k j + 1 else cnt3 x R k j := by
  unfold cnt3
  rw [List.take_succ_eq_append_getElem hj, List.count_append, getD_at hj]
  by_cases h : (R k)[j] = x
  · rw [if_pos h, h]
    simp
    omega
  · rw [if_neg h, List.count_cons_of_ne h]
    simp

theorem count_one {T : List Int} {x : Int} (hd : T.Nodup) (hx : x ∈ T) : List.count x T = 1 := by
  have h1 : List.count x T ≤ 1 := by
    induction T with
    | nil => simp
    | cons y T ih =>
      obtain ⟨a, b⟩ := List.pairwise_cons.1 hd
      by_cases e : y = x
      · subst e
        have : List.count y T = 0 := List.count_eq_zero.2 (fun h => a y h rfl)
        simp [this]
      · rw [List.count_cons_of_ne e]
        rcases List.mem_cons.1 hx with h | h
        · exact absurd h.symm e
        · exact ih b h
  have h2 := List.count_pos_iff.2 hx
  omega
/-- A way along one line goes by its nodes, in their row, and by no node twice. -/
theorem line_facts {c : Cf} {a : Int} {u : Bool} {P : List Int} (ha : isN c a = true) (ht : ∀ n ∈ P, isN c n = true) (hp : List.Pairwise (ris c u) (a :: P)) :
    wys c a P ≠ [] ∧ (wys c a P).getD 0 0 = a ∧ atS P (wys c a P) (wys c a P).length = P.length ∧ ∀ j i, j < i → i < (wys c a P).length → (wys c a P).getD j 0 ≠ (wys c a P).getD i 0 := by
  rw [wys_ok ha ht]
  obtain ⟨h1, h2⟩ := wyL_rises ha ht hp
  refine ⟨by simp, rfl, atS_end (List.Sublist.trans h2 (List.sublist_cons_self ..)), ?_⟩
  intro j i hji hi
  rw [getD_at (by omega), getD_at hi]
  have := List.pairwise_iff_getElem.1 h1 j i (by omega) hi hji
  exact ris_ne this

/-- What is asked of a set's plan. -/
theorem sets_facts {c : Cf} {a : Int} {T : List Int} (ha : isN c a = true) (ht : ∀ n ∈ T, isN c n = true) (hd : T.Nodup) (h0 : T ≠ []) : plB c a T = true ∧
    (plG c a T).length + (plL c a T).length + (plS c a T).length = T.length ∧ (plS c a T).length ≤ 1 ∧
    (∀ k, k < 2 → wys c a (row3 (plG c a T) (plL c a T) (plS c a T) k) ≠ [] ∧ (wys c a (row3 (plG c a T) (plL c a T) (plS c a T) k)).getD 0 0 = a ∧
      atS (row3 (plG c a T) (plL c a T) (plS c a T) k) (wys c a (row3 (plG c a T) (plL c a T) (plS c a T) k)) (wys c a (row3 (plG c a T) (plL c a T) (plS c a T) k)).length = (row3 (plG c a T) (plL c a T) (plS c a T) k).length ∧
      ∀ j i, j < i → i < (wys c a (row3 (plG c a T) (plL c a T) (plS c a T) k)).length → (wys c a (row3 (plG c a T) (plL c a T) (plS c a T) k)).getD j 0 ≠ (wys c a (row3 (plG c a T) (plL c a T) (plS c a T) k)).getD i 0) ∧
    ∀ x ∈ T, cnt3 x (row3 (plG c a T) (plL c a T) (plS c a T)) 3 0 = 1 := by
  have b1 := plB_mk ha h0 ht hd
  have hr := srt_rises ht hd
  have hN := srt_is ht
  have eG : plG c a T = gtr c a (srt c T) := by unfold plG; rw [if_pos b1]
  have eL : plL c a T = les c a (srt c T) := by unfold plL; rw [if_pos b1]
  have eS : plS c a T = sef c a (srt c T) := by unfold plS; rw [if_pos b1]
  rw [eG, eL, eS]
  refine ⟨b1, by rw [part_len, srt_len], sef_one hr, ?_, ?_⟩
  · intro k hk
    match k, hk with
    | 0, _ => exact line_facts (u := true) ha (gtr_is hN) (gtr_rises a hr)
    | 1, _ => exact line_facts (u := false) ha (les_is hN) (les_falls a hr)
    | k + 2, h => omega
  · intro x hx
    have e := part_count c a x (srt c T)
    have e2 : List.count x (srt c T) = List.count x T := (srt_perm c T).count_eq x
    have e3 : List.count x T = 1 := count_one hd hx
    unfold cnt3
    simp only [row3]
    simp
    omega
end Go.Proofs.YtcebfkkpclnmoaaDoor
