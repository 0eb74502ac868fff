/-
  One line through all nodes, as plain mathematics: labels, the step toward a node, and ways.
-/
import Derived.Test.YtcebfkkpclnmoaaDoorPlain
namespace Go.Proofs.YtcebfkkpclnmoaaDoor

/-- The place of the label in its line of nodes, and the label. -/
def tx (c : Cf) (n : Int) : Int := if ply c n % 2 = 1 then c.w - 1 - plx c n else plx c n
def lb (c : Cf) (n : Int) : Int := if isN c n = true then ply c n * c.w + tx c n else 0

theorem lb_no {c : Cf} {n : Int} (h : isN c n = false) : lb c n = 0 := by unfold lb; rw [h]; rfl
theorem tx_in {c : Cf} {n : Int} (h : isN c n = true) : inP c (tx c n) (ply c n) = true := by
  obtain ⟨hc, a1, a2, a3, a4, _⟩ := place_of h
  unfold tx
  split
  · exact inP_mk hc (by omega) (by omega) a3 a4
  · exact inP_mk hc a1 a2 a3 a4
theorem lb_at {c : Cf} {n : Int} (h : isN c n = true) : lb c n = atn c (tx c n) (ply c n) ∧ ate c (tx c n) (ply c n) = 0 := by
  unfold lb atn ate
  rw [h, tx_in h]
  exact ⟨rfl, rfl⟩
theorem lb_ok {c : Cf} {n : Int} (h : isN c n = true) : isN c (lb c n) = true ∧ plx c (lb c n) = tx c n ∧ ply c (lb c n) = ply c n := by
  have e : lb c n = ply c n * c.w + tx c n := by unfold lb; rw [h]; rfl
  rw [e]
  exact node_of (tx_in h)
theorem lb_back {c : Cf} {n : Int} (h : isN c n = true) : lb c (lb c n) = n := by
  obtain ⟨h1, h2, h3⟩ := lb_ok h
  obtain ⟨h4, h5, h6⟩ := lb_ok h1
  refine node_eq h4 h ?_ ?_
  · rw [h5]
    unfold tx at h2 ⊢
    rw [h3]
    revert h2
    split <;> omega
  · rw [h6, h3]
theorem lb_in (c : Cf) (n : Int) : 0 ≤ lb c n ∧ lb c n < 4096 := by
  cases h : isN c n with
  | true => exact isN_lt (lb_ok h).1
  | false => rw [lb_no h]; omega
theorem lb_inj {c : Cf} {a b : Int} (ha : isN c a = true) (hb : isN c b = true) (h : lb c a = lb c b) : a = b := by
  have e := congrArg (lb c) h
  rwa [lb_back ha, lb_back hb] at e
theorem lb_lt {c : Cf} {n : Int} (h : isN c n = true) : lb c n < nod c := by
  have := isN_ok (lb_ok h).1
  rw [nod_of this.1]
  exact this.2.2

/-- Labels that follow one another are of nodes beside one another. -/
theorem adj {c : Cf} {l : Int} (h : isN c l = true) (h1 : isN c (l + 1) = true) : ∃ p, 1 ≤ p ∧ p ≤ 4 ∧ bsB c (lb c l) p = true ∧ bsN c (lb c l) p = lb c (l + 1) := by
  obtain ⟨hc, a1, a2, a3, a4, a5⟩ := place_of h
  obtain ⟨_, b1, b2, b3, b4, b5⟩ := place_of h1
  obtain ⟨k1, k2, k3⟩ := lb_ok h
  obtain ⟨m1, m2, m3⟩ := lb_ok h1
  by_cases hx : plx c l + 1 < c.w
  · have e := node_of (inP_mk hc (x := plx c l + 1) (y := ply c l) (by omega) hx a3 a4)
    rw [show ply c l * c.w + (plx c l + 1) = l + 1 by omega] at e
    obtain ⟨_, ex, ey⟩ := e
    by_cases ho : ply c l % 2 = 1
    · have t1 : tx c l = c.w - 1 - plx c l := by unfold tx; rw [if_pos ho]
      have t2 : tx c (l + 1) = c.w - 1 - (plx c l + 1) := by unfold tx; rw [ey, if_pos ho, ex]
      have hb : bsB c (lb c l) 2 = true := step_mk k1 rfl (by rw [show dx 2 = -1 from rfl]; omega) (by rw [show dx 2 = -1 from rfl]; omega) (by rw [show dy 2 = 0 from rfl]; omega) (by rw [show dy 2 = 0 from rfl]; omega)
      obtain ⟨_, _, _, s1, s2, s3⟩ := step_ok hb
      refine ⟨2, by omega, by omega, hb, node_eq s1 m1 ?_ ?_⟩
      · rw [s2, k2, m2, t1, t2, show dx 2 = -1 from rfl]; omega
      · rw [s3, k3, m3, ey, show dy 2 = 0 from rfl]; omega
    · have t1 : tx c l = plx c l := by unfold tx; rw [if_neg ho]
      have t2 : tx c (l + 1) = plx c l + 1 := by unfold tx; rw [ey, if_neg ho, ex]
      have hb : bsB c (lb c l) 1 = true := step_mk k1 rfl (by rw [show dx 1 = 1 from rfl]; omega) (by rw [show dx 1 = 1 from rfl]; omega) (by rw [show dy 1 = 0 from rfl]; omega) (by rw [show dy 1 = 0 from rfl]; omega)
      obtain ⟨_, _, _, s1, s2, s3⟩ := step_ok hb
      refine ⟨1, by omega, by omega, hb, node_eq s1 m1 ?_ ?_⟩
      · rw [s2, k2, m2, t1, t2, show dx 1 = 1 from rfl]
      · rw [s3, k3, m3, ey, show dy 1 = 0 from rfl]; omega
  · have hw : plx c l = c.w - 1 := by omega
    have hy : ply c l + 1 < c.h := by
      by_cases hy : ply c l + 1 < c.h
      · exact hy
      · exfalso
        have g := (isN_ok h1).2.2
        have e1 : ply c l = c.h - 1 := by omega
        have e2 : (c.h - 1) * c.w = c.w * c.h - c.w := by rw [Int.sub_mul, Int.mul_comm]; omega
        rw [e1, e2] at a5
        omega
    have e := node_of (inP_mk hc (x := 0) (y := ply c l + 1) (by omega) (by omega) (by omega) hy)
    rw [show (ply c l + 1) * c.w + 0 = l + 1 by rw [Int.add_mul]; omega] at e
    obtain ⟨_, ex, ey⟩ := e
    have tt : tx c l = tx c (l + 1) := by
      unfold tx
      rw [ex, ey, hw]
      split <;> split <;> omega
    have hb : bsB c (lb c l) 3 = true := by
      have := (inP_ok (tx_in h)).2
      exact step_mk k1 rfl (by rw [show dx 3 = 0 from rfl]; omega) (by rw [show dx 3 = 0 from rfl]; omega) (by rw [show dy 3 = 1 from rfl]; omega) (by rw [show dy 3 = 1 from rfl]; omega)
    obtain ⟨_, _, _, s1, s2, s3⟩ := step_ok hb
    refine ⟨3, by omega, by omega, hb, node_eq s1 m1 ?_ ?_⟩
    · rw [s2, k2, m2, tt, show dx 3 = 0 from rfl]; omega
    · rw [s3, k3, m3, ey, show dy 3 = 1 from rfl]
theorem fr_one {c : Cf} {n p : Int} (h : bsB c n p = true) (hp : p ≠ 0) : fr c n (bsN c n p) = 1 := by
  obtain ⟨h1, _, _, h4, _, _⟩ := step_ok h
  have e := fr_step h hp h1
  rw [(fr_zero h1 h1).2 rfl] at e
  have := fr_nonneg h4 h1
  rw [fr_comm]
  omega
theorem adj_far {c : Cf} {l : Int} (h : isN c l = true) (h1 : isN c (l + 1) = true) : fr c (lb c l) (lb c (l + 1)) = 1 := by
  obtain ⟨p, p1, p2, hb, e⟩ := adj h h1
  rw [← e]
  exact fr_one hb (by omega)

/-- A port leads to a label that is nearer, and not past it. -/
def nea (c : Cf) (a g m p : Int) : Bool := bsB c a p && ((decide (m < lb c (bsN c a p)) && decide (lb c (bsN c a p) ≤ g)) || (decide (g ≤ lb c (bsN c a p)) && decide (lb c (bsN c a p) < m)))
/-- The port and the label behind the ports below k. -/
def stK (c : Cf) (a g : Int) : Nat → Int × Int
  | 0 => (0, lb c a)
  | k + 1 => if nea c a g (stK c a g k).2 (k : Int) = true then ((k : Int), lb c (bsN c a (k : Int))) else stK c a g k
def stp (c : Cf) (a t : Int) : Int := if (isN c a && isN c t) = true then (stK c a (lb c t) 5).1 else 0
def stB (c : Cf) (a t : Int) : Bool := isN c a && isN c t
/-- The node of the step. -/
def nx (c : Cf) (a t : Int) : Int := bsN c a (stp c a t)

theorem nea_iff {c : Cf} {a g m p : Int} : nea c a g m p = true ↔ bsB c a p = true ∧ ((m < lb c (bsN c a p) ∧ lb c (bsN c a p) ≤ g) ∨ (g ≤ lb c (bsN c a p) ∧ lb c (bsN c a p) < m)) := by
  unfold nea
  simp only [Bool.and_eq_true, Bool.or_eq_true, decide_eq_true_eq]
theorem stK_one {c : Cf} {a g : Int} (h : isN c a = true) : stK c a g 1 = (0, lb c a) := by
  show (if nea c a g (stK c a g 0).2 ((0 : Nat) : Int) = true then _ else stK c a g 0) = _
  rw [if_neg]
  · rfl
  · intro e
    have e := (nea_iff.1 e).2
    have s : bsN c a ((0 : Nat) : Int) = a := by
      have hb : bsB c a 0 = true := by
        obtain ⟨_, a1, a2, a3, a4, _⟩ := place_of h
        exact step_mk h rfl (by rw [show dx 0 = 0 from rfl]; omega) (by rw [show dx 0 = 0 from rfl]; omega) (by rw [show dy 0 = 0 from rfl]; omega) (by rw [show dy 0 = 0 from rfl]; omega)
      obtain ⟨_, _, _, s1, s2, s3⟩ := step_ok hb
      exact node_eq s1 h (by rw [show ((0 : Nat) : Int) = 0 from rfl, s2, show dx 0 = 0 from rfl]; omega) (by rw [show ((0 : Nat) : Int) = 0 from rfl, s3, show dy 0 = 0 from rfl]; omega)
    rw [s] at e
    have : (stK c a g 0).2 = lb c a := rfl
    omega
theorem stK_in (c : Cf) (a g : Int) (k : Nat) : 0 ≤ (stK c a g k).1 ∧ (stK c a g k).1 ≤ k ∧ 0 ≤ (stK c a g k).2 ∧ (stK c a g k).2 < 4096 := by
  induction k with
  | zero =>
    have := lb_in c a
    simp only [stK]
    omega
  | succ k ih =>
    simp only [stK]
    split
    · have := lb_in c (bsN c a (k : Int))
      dsimp only
      omega
    · omega
/-- Behind the ports below k: none yet, or one that leads nearer and not past it. -/
theorem stK_inv (c : Cf) (a g : Int) (k : Nat) :
    ((stK c a g k).1 = 0 ∧ (stK c a g k).2 = lb c a) ∨ (bsB c a (stK c a g k).1 = true ∧ (stK c a g k).2 = lb c (bsN c a (stK c a g k).1) ∧ ((lb c a < (stK c a g k).2 ∧ (stK c a g k).2 ≤ g) ∨ (g ≤ (stK c a g k).2 ∧ (stK c a g k).2 < lb c a))) := by
  induction k with
  | zero => exact Or.inl ⟨rfl, rfl⟩
  | succ k ih =>
    simp only [stK]
    split
    · rename_i h
      obtain ⟨hb, hl⟩ := nea_iff.1 h
      refine Or.inr ⟨hb, rfl, ?_⟩
      dsimp only
      rcases ih with ⟨_, e⟩ | ⟨_, _, e⟩ <;> omega
    · exact ih
theorem stK_found {c : Cf} {a g : Int} {p : Nat} (hp : 1 ≤ p) (hb : bsB c a p = true) (hl : (lb c a < lb c (bsN c a p) ∧ lb c (bsN c a p) ≤ g) ∨ (g ≤ lb c (bsN c a p) ∧ lb c (bsN c a p) < lb c a)) (k : Nat) (hk : p < k) : (stK c a g k).1 ≠ 0 := by
  induction k with
  | zero => omega
  | succ k ih =>
    have hi := stK_inv c a g k
    simp only [stK]
    split
    · rename_i h
      dsimp only
      intro e
      have e0 : (k : Int) = 0 := e
      have : p = k := by omega
      omega
    · rename_i h
      by_cases hpk : p = k
      · subst hpk
        rcases hi with ⟨e1, e2⟩ | ⟨_, _, e⟩
        · exfalso
          apply h
          rw [nea_iff, e2]
          exact ⟨hb, hl⟩
        · intro e0
          rename_i q1 q2
          rw [e0] at q1 q2
          have s := step_ok q1
          have : bsN c a 0 = a := node_eq s.2.2.2.1 s.1 (by rw [s.2.2.2.2.1, show dx 0 = 0 from rfl]; omega) (by rw [s.2.2.2.2.2, show dy 0 = 0 from rfl]; omega)
          rw [this] at q2
          omega
      · exact ih (by omega)

/-- P8.2: the step is there; the label is nearer, and not past it. -/
theorem nx_ok {c : Cf} {a t : Int} (ha : isN c a = true) (ht : isN c t = true) (hne : a ≠ t) :
    1 ≤ stp c a t ∧ stp c a t ≤ 4 ∧ bsB c a (stp c a t) = true ∧ isN c (nx c a t) = true ∧ fr c a (nx c a t) = 1 ∧
    ((lb c a < lb c (nx c a t) ∧ lb c (nx c a t) ≤ lb c t) ∨ (lb c t ≤ lb c (nx c a t) ∧ lb c (nx c a t) < lb c a)) := by
  have e : stp c a t = (stK c a (lb c t) 5).1 := by unfold stp; rw [ha, ht]; rfl
  have hl : lb c a ≠ lb c t := fun e => hne (lb_inj ha ht e)
  obtain ⟨la, xa, ya⟩ := lb_ok ha
  have la' := isN_ok la
  have lt' := isN_ok (lb_ok ht).1
  have f : ∃ p : Nat, 1 ≤ p ∧ p < 5 ∧ bsB c a p = true ∧ ((lb c a < lb c (bsN c a p) ∧ lb c (bsN c a p) ≤ lb c t) ∨ (lb c t ≤ lb c (bsN c a p) ∧ lb c (bsN c a p) < lb c a)) := by
    by_cases hlt : lb c a < lb c t
    · have h1 : isN c (lb c a + 1) = true := isN_mk la'.1 (by omega) (by omega)
      obtain ⟨p, p1, p2, hb, en⟩ := adj la h1
      rw [lb_back ha] at hb en
      have hp : ((p.toNat : Nat) : Int) = p := by omega
      refine ⟨p.toNat, by omega, by omega, by rw [hp]; exact hb, ?_⟩
      rw [hp, en, lb_back h1]
      omega
    · have h1 : isN c (lb c a - 1) = true := isN_mk la'.1 (by omega) (by omega)
      have h2 : isN c (lb c a - 1 + 1) = true := by rw [show lb c a - 1 + 1 = lb c a by omega]; exact la
      obtain ⟨p, p1, p2, hb, en⟩ := adj h1 h2
      rw [show lb c a - 1 + 1 = lb c a by omega, lb_back ha] at en
      obtain ⟨b1, b2⟩ := back_ok hb
      rw [en] at b1 b2
      have hi : isP p = true := (step_ok hb).2.1
      have hq : 1 ≤ bck p ∧ bck p ≤ 4 := by
        rcases (isP_iff p).1 hi with rfl | rfl | rfl | rfl | rfl
        · omega
        all_goals decide
      have hp : (((bck p).toNat : Nat) : Int) = bck p := by omega
      refine ⟨(bck p).toNat, by omega, by omega, by rw [hp]; exact b1, ?_⟩
      rw [hp, b2, lb_back h1]
      omega
  obtain ⟨p, p1, p2, hb, hl'⟩ := f
  have hs := stK_found p1 hb hl' 5 p2
  have hi := stK_inv c a (lb c t) 5
  have hr := stK_in c a (lb c t) 5
  rw [← e] at hs hi hr
  rcases hi with ⟨e0, _⟩ | ⟨i1, i2, i3⟩
  · exact absurd e0 hs
  · have s := step_ok i1
    rw [i2] at i3
    refine ⟨by omega, ?_, i1, s.2.2.2.1, fr_one i1 (by omega), i3⟩
    rcases (isP_iff _).1 s.2.1 with h | h | h | h | h <;> omega
theorem stp_in (c : Cf) (a t : Int) : 0 ≤ stp c a t ∧ stp c a t ≤ 5 := by
  unfold stp
  split
  · have := stK_in c a (lb c t) 5
    omega
  · omega
theorem nx_in (c : Cf) (a t : Int) : 0 ≤ nx c a t ∧ nx c a t < 4096 := bsN_in c a _

/-- How many labels two nodes are apart. -/
def apt (c : Cf) (a t : Int) : Nat := (btw (lb c a) (lb c t)).toNat
theorem apt_lt {c : Cf} {a t : Int} (ha : isN c a = true) (ht : isN c t = true) (hne : a ≠ t) : apt c (nx c a t) t < apt c a t := by
  have h := (nx_ok ha ht hne).2.2.2.2.2
  unfold apt btw
  split <;> split <;> omega
theorem apt_in (c : Cf) (a t : Int) : apt c a t < 4096 := by
  have := lb_in c a
  have := lb_in c t
  unfold apt btw
  split <;> omega
theorem apt_btw (c : Cf) (a t : Int) : (apt c a t : Int) = btw (lb c a) (lb c t) := by
  have := lb_in c a
  have := lb_in c t
  unfold apt btw
  split <;> omega

/-- The nodes of the way to one, behind the first one. -/
def wyF (c : Cf) : Nat → Int → Int → List Int
  | 0, _, _ => []
  | k + 1, a, t => if a = t then [] else nx c a t :: wyF c k (nx c a t) t
def wy (c : Cf) (a t : Int) : List Int := wyF c (apt c a t) a t
theorem wyF_more {c : Cf} {t : Int} (ht : isN c t = true) : ∀ (k m : Nat) (a : Int), isN c a = true → apt c a t ≤ k → apt c a t ≤ m → wyF c k a t = wyF c m a t := by
  intro k
  induction k with
  | zero =>
    intro m a ha h0 hm
    have e : a = t := by
      by_cases h : a = t
      · exact h
      · have := apt_lt ha ht h
        omega
    cases m with
    | zero => rfl
    | succ m => simp only [wyF]; rw [if_pos e]
  | succ k ih =>
    intro m a ha hk hm
    by_cases e : a = t
    · cases m with
      | zero => simp only [wyF]; rw [if_pos e]
      | succ m => simp only [wyF]; rw [if_pos e, if_pos e]
    · have hl := apt_lt ha ht e
      cases m with
      | zero => omega
      | succ m =>
        simp only [wyF]
        rw [if_neg e, if_neg e, ih m _ (nx_ok ha ht e).2.2.2.1 (by omega) (by omega)]
theorem wy_end (c : Cf) (t : Int) : wy c t t = [] := by
  unfold wy
  have : apt c t t = 0 := by unfold apt btw; simp
  rw [this]
  rfl
theorem wy_step {c : Cf} {a t : Int} (ha : isN c a = true) (ht : isN c t = true) (hne : a ≠ t) : wy c a t = nx c a t :: wy c (nx c a t) t := by
  have hl := apt_lt ha ht hne
  have hn := (nx_ok ha ht hne).2.2.2.1
  obtain ⟨k, hk⟩ : ∃ k, apt c a t = k + 1 := ⟨apt c a t - 1, by omega⟩
  unfold wy
  rw [hk]
  simp only [wyF]
  rw [if_neg hne, wyF_more ht k (apt c (nx c a t) t) _ hn (by omega) (Nat.le_refl _)]

/-- Whatever holds of the end, and of a node if of the next one, holds of all. -/
theorem wy_ind {c : Cf} {t : Int} (ht : isN c t = true) (Q : Int → Prop) (h0 : Q t) (h1 : ∀ a, isN c a = true → a ≠ t → Q (nx c a t) → Q a) : ∀ a, isN c a = true → Q a := by
  have g : ∀ (k : Nat) a, apt c a t ≤ k → isN c a = true → Q a := by
    intro k
    induction k with
    | zero =>
      intro a hk ha
      by_cases e : a = t
      · exact e ▸ h0
      · have := apt_lt ha ht e
        omega
    | succ k ih =>
      intro a hk ha
      by_cases e : a = t
      · exact e ▸ h0
      · have := apt_lt ha ht e
        exact h1 a ha e (ih _ (by omega) (nx_ok ha ht e).2.2.2.1)
  exact fun a ha => g _ a (Nat.le_refl _) ha
theorem wy_len {c : Cf} {t : Int} (ht : isN c t = true) : ∀ a, isN c a = true → (wy c a t).length ≤ apt c a t := by
  refine wy_ind ht _ (by rw [wy_end]; simp) ?_
  intro a ha e h
  have := apt_lt ha ht e
  rw [wy_step ha ht e, List.length_cons]
  omega
theorem wy_is {c : Cf} {t : Int} (ht : isN c t = true) : ∀ a, isN c a = true → ∀ n ∈ wy c a t, isN c n = true := by
  refine wy_ind ht _ (by rw [wy_end]; simp) ?_
  intro a ha e h
  rw [wy_step ha ht e]
  intro n hn
  rcases List.mem_cons.1 hn with rfl | hn
  · exact (nx_ok ha ht e).2.2.2.1
  · exact h n hn
/-- Its last node is the end. -/
theorem wy_last {c : Cf} {t : Int} (ht : isN c t = true) : ∀ a, isN c a = true → ∀ d, (a :: wy c a t).getLastD d = t := by
  refine wy_ind ht _ (by rw [wy_end]; intro d; rfl) ?_
  intro a ha e h d
  rw [wy_step ha ht e]
  exact h a
theorem wy_mem {c : Cf} {a t : Int} (ha : isN c a = true) (ht : isN c t = true) (hne : a ≠ t) : t ∈ wy c a t := by
  have g := wy_ind ht (fun a => a = t ∨ t ∈ wy c a t) (Or.inl rfl) (by
    intro a ha e h
    rw [wy_step ha ht e]
    rcases h with h | h
    · exact Or.inr (List.mem_cons.2 (Or.inl h.symm))
    · exact Or.inr (List.mem_cons.2 (Or.inr h))) a ha
  exact g.resolve_left hne

/-- Labels rise, or fall. -/
def ris (c : Cf) (u : Bool) (a b : Int) : Prop := if u = true then lb c a < lb c b else lb c b < lb c a
theorem ris_trans {c : Cf} {u : Bool} {a b d : Int} (h : ris c u a b) (k : ris c u b d) : ris c u a d := by
  unfold ris at *
  cases u <;> simp only [Bool.false_eq_true, if_true, if_false] at * <;> omega
theorem ris_ne {c : Cf} {u : Bool} {a b : Int} (h : ris c u a b) : a ≠ b := by
  rintro rfl
  unfold ris at h
  cases u <;> simp only [Bool.false_eq_true, if_true, if_false] at h <;> omega
theorem ris_nx {c : Cf} {u : Bool} {a t : Int} (ha : isN c a = true) (ht : isN c t = true) (h : ris c u a t) : ris c u a (nx c a t) ∧ (nx c a t = t ∨ ris c u (nx c a t) t) := by
  have k := nx_ok ha ht (ris_ne h)
  have kl := k.2.2.2.2.2
  by_cases e : nx c a t = t
  · exact ⟨by rw [e]; exact h, Or.inl e⟩
  · have : lb c (nx c a t) ≠ lb c t := fun q => e (lb_inj k.2.2.2.1 ht q)
    unfold ris at h ⊢
    cases u <;> simp only [Bool.false_eq_true, if_true, if_false] at h ⊢ <;> exact ⟨by omega, Or.inr (by omega)⟩
/-- P8.2: labels rise (or fall) with each step, and don't go past the end. -/
theorem wy_rises {c : Cf} {u : Bool} {t : Int} (ht : isN c t = true) : ∀ a, isN c a = true → (a = t ∨ ris c u a t) → List.Pairwise (ris c u) (a :: wy c a t) ∧ ∀ n ∈ a :: wy c a t, n = t ∨ ris c u n t := by
  refine wy_ind ht _ ?_ ?_
  · intro _
    rw [wy_end]
    exact ⟨List.pairwise_singleton _ _, fun n hn => Or.inl (by simpa using hn)⟩
  · intro a ha e h hr
    have hr := hr.resolve_left e
    obtain ⟨r1, r2⟩ := ris_nx ha ht hr
    obtain ⟨p, m⟩ := h r2
    rw [wy_step ha ht e]
    refine ⟨List.pairwise_cons.2 ⟨?_, p⟩, ?_⟩
    · intro n hn
      rcases List.mem_cons.1 hn with rfl | hn'
      · exact r1
      · exact ris_trans r1 ((List.pairwise_cons.1 p).1 n hn')
    · intro n hn
      rcases List.mem_cons.1 hn with rfl | hn'
      · exact Or.inr hr
      · exact m n hn'
/-- Each step leads to one beside. -/
theorem wy_beside {c : Cf} {t : Int} (ht : isN c t = true) : ∀ a, isN c a = true → ∀ i, i + 1 < (a :: wy c a t).length → fr c ((a :: wy c a t).getD i 0) ((a :: wy c a t).getD (i + 1) 0) = 1 := by
  refine wy_ind ht _ (by rw [wy_end]; intro i h; simp at h) ?_
  intro a ha e h i hi
  rw [wy_step ha ht e] at hi ⊢
  cases i with
  | zero => exact (nx_ok ha ht e).2.2.2.2.1
  | succ i => exact h i (by simpa using hi)

/-- The nodes of the way to several, one behind the other, behind the first one. -/
def wyL (c : Cf) : Int → List Int → List Int
  | _, [] => []
  | a, t :: ts => wy c a t ++ wyL c t ts
def lst : Int → List Int → Int
  | a, [] => a
  | _, t :: ts => lst t ts
def areN (c : Cf) (ts : List Int) : Bool := ts.all fun n => isN c n
def wyB (c : Cf) (a : Int) (ts : List Int) : Bool := isN c a && areN c ts
def wys (c : Cf) (a : Int) (ts : List Int) : List Int := if wyB c a ts = true then a :: wyL c a ts else []
theorem areN_iff {c : Cf} {ts : List Int} : areN c ts = true ↔ ∀ n ∈ ts, isN c n = true := by unfold areN; rw [List.all_eq_true]
theorem lst_snoc (a : Int) (ts : List Int) (t : Int) : lst a (ts ++ [t]) = t := by
  induction ts generalizing a with
  | nil => rfl
  | cons x ts ih => exact ih x
theorem lst_is {c : Cf} {a : Int} {ts : List Int} (ha : isN c a = true) (ht : ∀ n ∈ ts, isN c n = true) : isN c (lst a ts) = true := by
  induction ts generalizing a with
  | nil => exact ha
  | cons x ts ih => exact ih (ht x (List.mem_cons_self ..)) (fun n hn => ht n (List.mem_cons_of_mem _ hn))
theorem wyL_snoc (c : Cf) (a : Int) (ts : List Int) (t : Int) : wyL c a (ts ++ [t]) = wyL c a ts ++ wy c (lst a ts) t := by
  induction ts generalizing a with
  | nil => simp [wyL, lst]
  | cons x ts ih =>
    show wy c a x ++ wyL c x (ts ++ [t]) = (wy c a x ++ wyL c x ts) ++ wy c (lst x ts) t
    rw [ih x, List.append_assoc]
theorem wyL_len {c : Cf} {a : Int} {ts : List Int} (ha : isN c a = true) (ht : ∀ n ∈ ts, isN c n = true) : (wyL c a ts).length ≤ ts.length * 4096 := by
  induction ts generalizing a with
  | nil => simp [wyL]
  | cons x ts ih =>
    have hx := ht x (List.mem_cons_self ..)
    have e := ih hx (fun n hn => ht n (List.mem_cons_of_mem _ hn))
    have l := wy_len hx a ha
    have b := apt_in c a x
    show (wy c a x ++ wyL c x ts).length ≤ _
    rw [List.length_append, List.length_cons]
    omega
theorem wyL_rises {c : Cf} {u : Bool} {a : Int} {ts : List Int} (ha : isN c a = true) (ht : ∀ n ∈ ts, isN c n = true) (hp : List.Pairwise (ris c u) (a :: ts)) :
    List.Pairwise (ris c u) (a :: wyL c a ts) ∧ ts.Sublist (wyL c a ts) := by
  induction ts generalizing a with
  | nil => exact ⟨hp, List.Sublist.refl _⟩
  | cons x ts ih =>
    have hx := ht x (List.mem_cons_self ..)
    obtain ⟨p1, p2⟩ := List.pairwise_cons.1 hp
    have hax := p1 x (List.mem_cons_self ..)
    obtain ⟨q1, q2⟩ := ih hx (fun n hn => ht n (List.mem_cons_of_mem _ hn)) p2
    obtain ⟨w1, w2⟩ := wy_rises hx a ha (Or.inr hax)
    constructor
    · show List.Pairwise (ris c u) ((a :: wy c a x) ++ wyL c x ts)
      refine List.pairwise_append.2 ⟨w1, (List.pairwise_cons.1 q1).2, ?_⟩
      intro n hn m hm
      have hm' := (List.pairwise_cons.1 q1).1 m hm
      rcases w2 n hn with rfl | r
      · exact hm'
      · exact ris_trans r hm'
    · show (([x] : List Int) ++ ts).Sublist (wy c a x ++ wyL c x ts)
      exact List.Sublist.append (List.singleton_sublist.2 (wy_mem ha hx (ris_ne hax))) q2
theorem wys_ok {c : Cf} {a : Int} {ts : List Int} (ha : isN c a = true) (ht : ∀ n ∈ ts, isN c n = true) : wys c a ts = a :: wyL c a ts := by
  unfold wys wyB
  rw [ha, areN_iff.2 ht]
  rfl
theorem wys_len (c : Cf) (a : Int) (ts : List Int) : (wys c a ts).length ≤ ts.length * 4096 + 1 := by
  unfold wys
  split
  · rename_i h
    unfold wyB at h
    simp only [Bool.and_eq_true] at h
    have := wyL_len h.1 (areN_iff.1 h.2)
    rw [List.length_cons]
    omega
  · simp

/-- What is left of a row whose first one is struck each time it comes by. -/
def rest : List Int → List Int → List Int
  | ts, [] => ts
  | [], _ :: _ => []
  | t :: ts, x :: w => if x = t then rest ts w else rest (t :: ts) w
theorem rest_nil (w : List Int) : rest [] w = [] := by cases w <;> rfl
theorem rest_of {ts w : List Int} (h : ts.Sublist w) : rest ts w = [] := by
  induction w generalizing ts with
  | nil => cases h; rfl
  | cons x w ih =>
    cases ts with
    | nil => rfl
    | cons t ts =>
      show (if x = t then rest ts w else rest (t :: ts) w) = []
      split
      · cases h with
        | cons _ h => exact ih (List.Sublist.trans (List.sublist_cons_self ..) h)
        | cons_cons _ h => exact ih h
      · rename_i hne
        cases h with
        | cons _ h => exact ih h
        | cons_cons _ h => exact absurd rfl hne
end Go.Proofs.YtcebfkkpclnmoaaDoor
