/-
  The way of a packet by choices, its ports and their ranks, as plain mathematics (layer 9).
-/
import Derived.Test.YtaohimmmhpmgdaaDoorTMore
namespace Go.Proofs.YtaohimmmhpmgdaaDoor

/-- The first k of what a function tells. -/
def wyK (f : Nat → Int) (k : Nat) : List Int := (List.range k).map f
theorem wyK_len (f : Nat → Int) (k : Nat) : (wyK f k).length = k := by unfold wyK; simp
theorem wyK_succ (f : Nat → Int) (k : Nat) : wyK f k ++ [f k] = wyK f (k + 1) := by unfold wyK; rw [List.range_succ, List.map_append]; rfl
theorem wyK_at (f : Nat → Int) {k i : Nat} (h : i < k) : (wyK f k).getD i 0 = f i := by unfold wyK; simp [List.getD_eq_getElem?_getD, h]
theorem wyK_zero (f : Nat → Int) : wyK f 0 = [] := rfl
theorem wyK_one (f : Nat → Int) : wyK f 1 = [f 0] := rfl
theorem wyK_same {f g : Nat → Int} {k : Nat} (h : ∀ i, i < k → f i = g i) : wyK f k = wyK g k := by
  unfold wyK
  refine List.map_congr_left fun i hi => h i ?_
  simpa using hi

/-- The nodes of the way by choices, and the ports of its steps, by their number. -/
def nd (c : Cf) (b : Int) (cs : List Int) (a : Int) : Nat → Int
  | 0 => a
  | i + 1 => bsN c (nd c b cs a i) (chP (opt c (nd c b cs a i) b) (cs.getD i 0))
def pt (c : Cf) (b : Int) (cs : List Int) (a : Int) (i : Nat) : Int := chP (opt c (nd c b cs a i) b) (cs.getD i 0)
def way (c : Cf) (a b : Int) (cs : List Int) : List Int := if (isN c a && isN c b) = true then wyK (nd c b cs a) ((fr c a b).toNat + 1) else []
theorem way_no {c : Cf} {a b : Int} (h : (isN c a && isN c b) = false) (cs : List Int) : way c a b cs = [] := by unfold way; rw [h]; rfl
theorem way_yes {c : Cf} {a b : Int} (ha : isN c a = true) (hb : isN c b = true) (cs : List Int) : way c a b cs = wyK (nd c b cs a) ((fr c a b).toNat + 1) := by unfold way; rw [ha, hb]; rfl

theorem nd_inv {c : Cf} {a b : Int} (ha : isN c a = true) (hb : isN c b = true) (cs : List Int) : ∀ i : Nat, i ≤ (fr c a b).toNat →
    isN c (nd c b cs a i) = true ∧ fr c (nd c b cs a i) b = fr c a b - i ∧ (∀ j, j + 1 = i → Went c (pt c b cs a j) (nd c b cs a i) b) ∧
    (i < (fr c a b).toNat → nd c b cs a i ≠ b ∧ pt c b cs a i ∈ opt c (nd c b cs a i) b ∧ pt c b cs a i ≠ 0 ∧ bsB c (nd c b cs a i) (pt c b cs a i) = true ∧ bsN c (nd c b cs a i) (pt c b cs a i) = nd c b cs a (i + 1)) := by
  have fwd : ∀ i : Nat, isN c (nd c b cs a i) = true → fr c (nd c b cs a i) b = fr c a b - i → i < (fr c a b).toNat →
      nd c b cs a i ≠ b ∧ pt c b cs a i ∈ opt c (nd c b cs a i) b ∧ pt c b cs a i ≠ 0 ∧ bsB c (nd c b cs a i) (pt c b cs a i) = true ∧ bsN c (nd c b cs a i) (pt c b cs a i) = nd c b cs a (i + 1) := by
    intro i h1 h2 h3
    have hne : nd c b cs a i ≠ b := fun e => by
      have := (fr_zero h1 hb).2 e
      omega
    have hl : (opt c (nd c b cs a i) b).length ≠ 0 := by have := (opt_len h1 hb).1; omega
    have hm : pt c b cs a i ∈ opt c (nd c b cs a i) b := chP_mem hl _
    obtain ⟨n1, n2, _⟩ := opt_near h1 hb hne hm
    exact ⟨hne, hm, n1, n2, rfl⟩
  intro i
  induction i with
  | zero =>
    intro _
    have h2 : fr c (nd c b cs a 0) b = fr c a b - ((0 : Nat) : Int) := by show fr c a b = _; simp
    exact ⟨ha, h2, fun j hj => by omega, fwd 0 ha h2⟩
  | succ i ih =>
    intro hi
    obtain ⟨h1, h2, _, h4⟩ := ih (by omega)
    obtain ⟨g1, g2, g3, g4, g5⟩ := h4 (by omega)
    have k1 : isN c (nd c b cs a (i + 1)) = true := by rw [← g5]; exact (step_ok g4).2.2.2.1
    have k2 : fr c (nd c b cs a (i + 1)) b = fr c a b - ((i + 1 : Nat) : Int) := by
      rw [← g5, (opt_near h1 hb g1 g2).2.2, h2]
      omega
    refine ⟨k1, k2, fun j hj => ?_, fwd (i + 1) k1 k2⟩
    obtain rfl : j = i := by omega
    rw [← g5]
    exact went_next h1 hb g1 g2
theorem nd_end {c : Cf} {a b : Int} (ha : isN c a = true) (hb : isN c b = true) (cs : List Int) : nd c b cs a (fr c a b).toNat = b := by
  obtain ⟨h1, h2, _⟩ := nd_inv ha hb cs _ (Nat.le_refl _)
  have := fr_nonneg ha hb
  exact (fr_zero h1 hb).1 (by omega)
/-- Choices that are not asked turn nothing. -/
theorem nd_same {c : Cf} {a b : Int} {cs ds : List Int} : ∀ n : Nat, (∀ i, i < n → cs.getD i 0 = ds.getD i 0) → ∀ i, i ≤ n → nd c b cs a i = nd c b ds a i := by
  intro n h i
  induction i with
  | zero => intro _; rfl
  | succ i ih =>
    intro hi
    show bsN c (nd c b cs a i) (chP (opt c (nd c b cs a i) b) (cs.getD i 0)) = bsN c (nd c b ds a i) (chP (opt c (nd c b ds a i) b) (ds.getD i 0))
    rw [ih (by omega), h i (by omega)]
theorem ch_only {l : List Int} (h : l.length = 1) (k m : Int) : chP l k = chP l m := by
  unfold chP
  rw [if_neg (by omega), if_neg (by omega), h]
  simp [Int.emod_one]
/-- Along x first none does. -/
theorem nd_first {c : Cf} {a b : Int} (ha : isN c a = true) (hb : isN c b = true) (hw : c.we = false) (cs ds : List Int) : ∀ i, i ≤ (fr c a b).toNat → nd c b cs a i = nd c b ds a i := by
  intro i
  induction i with
  | zero => intro _; rfl
  | succ i ih =>
    intro hi
    have e := ih (by omega)
    obtain ⟨h1, _⟩ := nd_inv ha hb cs i (by omega)
    show bsN c (nd c b cs a i) (chP (opt c (nd c b cs a i) b) (cs.getD i 0)) = bsN c (nd c b ds a i) (chP (opt c (nd c b ds a i) b) (ds.getD i 0))
    rw [← e, ch_only ((opt_len h1 hb).2.2 hw) _ (ds.getD i 0)]
theorem way_take {c : Cf} {a b : Int} {cs ds : List Int} (h : ∀ i, i < (fr c a b).toNat → cs.getD i 0 = ds.getD i 0) : way c a b cs = way c a b ds := by
  unfold way
  split
  · exact wyK_same fun i hi => nd_same _ h i (by omega)
  · rfl
theorem way_first {c : Cf} {a b : Int} (hw : c.we = false) (cs ds : List Int) : way c a b cs = way c a b ds := by
  cases e : isN c a && isN c b with
  | false => rw [way_no e, way_no e]
  | true =>
    simp only [Bool.and_eq_true] at e
    rw [way_yes e.1 e.2, way_yes e.1 e.2]
    exact wyK_same fun i hi => nd_first e.1 e.2 hw cs ds i (by omega)

/-- One port at most leads from a node to another one. -/
theorem bs_uniq {c : Cf} {n p q : Int} (h1 : bsB c n p = true) (h2 : bsB c n q = true) (e : bsN c n p = bsN c n q) : p = q := by
  obtain ⟨_, p1, _, _, p5, p6⟩ := step_ok h1
  obtain ⟨_, q1, _, _, q5, q6⟩ := step_ok h2
  rw [e] at p5 p6
  have ex : dx p = dx q := by omega
  have ey : dy p = dy q := by omega
  rcases (isP_iff p).1 p1 with rfl | rfl | rfl | rfl | rfl <;> rcases (isP_iff q).1 q1 with rfl | rfl | rfl | rfl | rfl <;> first | rfl | (exfalso; revert ex ey; decide)

/-- A channel's rank. -/
def rk (c : Cf) (n p : Int) : Int := if p = 2 then c.w - 1 - plx c n else if p = 3 then c.w + 2 * c.h * plx c n + ply c n else if p = 4 then c.w + 2 * c.h * plx c n + c.h - 1 - ply c n else c.w + 2 * c.h * plx c n + c.h
theorem rk_mul {c : Cf} {n : Int} (h : isN c n = true) : 0 ≤ 2 * c.h * plx c n ∧ 2 * c.h * plx c n ≤ 8192 := by
  obtain ⟨hc, h1, h2, _⟩ := place_of h
  have f := fits_of hc
  have := f.w2
  have a1 : 0 ≤ c.h * plx c n := Int.mul_nonneg (by have := f.h1; omega) h1
  have a2 : c.h * plx c n ≤ 64 * plx c n := Int.mul_le_mul_of_nonneg_right f.h2 h1
  rw [Int.mul_assoc]
  omega
theorem rk_in {c : Cf} {n : Int} (h : isN c n = true) (p : Int) : 0 ≤ rk c n p ∧ rk c n p ≤ 10000 := by
  obtain ⟨hc, h1, h2, h3, h4, _⟩ := place_of h
  have f := fits_of hc
  have m := rk_mul h
  have := f.w1
  have := f.w2
  have := f.h1
  have := f.h2
  unfold rk
  generalize 2 * c.h * plx c n = t at *
  repeat' split
  all_goals omega
/-- The next step's channel is of a greater rank. -/
theorem rk_lt {c : Cf} {n p q b : Int} (h : bsB c n p = true) (hp : p ≠ 0) (hb : isN c b = true) (hne : bsN c n p ≠ b) (hw : Went c p (bsN c n p) b) (hq : q ∈ opt c (bsN c n p) b) : rk c n p < rk c (bsN c n p) q := by
  obtain ⟨s1, s2, _, s4, s5, s6⟩ := step_ok h
  obtain ⟨hc, n1, n2, n3, n4, _⟩ := place_of s1
  obtain ⟨_, m1, m2, m3, m4, _⟩ := place_of s4
  have f := fits_of hc
  have f1 := f.w1
  have f2 := f.h1
  have mn := rk_mul s1
  have mm := rk_mul s4
  have hcs := opt_cases s4 hb hne hq
  have g1 : p = 1 ∨ p = 2 ∨ p = 3 ∨ p = 4 := by have := (isP_iff p).1 s2; omega
  unfold Went at hw
  unfold rk
  generalize bsN c n p = m at *
  have e1 : p = 1 → 2 * c.h * plx c m = 2 * c.h * plx c n + 2 * c.h := by
    rintro rfl
    rw [s5, show dx 1 = 1 from rfl, Int.mul_add]; omega
  have e2 : p = 3 ∨ p = 4 → 2 * c.h * plx c m = 2 * c.h * plx c n := by
    rintro (rfl | rfl)
    · rw [s5, show dx 3 = 0 from rfl, Int.add_zero]
    · rw [s5, show dx 4 = 0 from rfl, Int.add_zero]
  generalize ox c m b = X at *
  generalize oy c m b = Y at *
  generalize 2 * c.h * plx c m = T at *
  generalize 2 * c.h * plx c n = S at *
  rcases g1 with rfl | rfl | rfl | rfl
  · have := e1 rfl
    rcases hcs with ⟨rfl, _⟩ | ⟨rfl, _⟩ | ⟨rfl, _⟩ | ⟨rfl, _⟩ <;> simp <;> omega
  · rw [show dx 2 = -1 from rfl] at s5
    rcases hcs with ⟨rfl, _⟩ | ⟨rfl, _⟩ | ⟨rfl, _⟩ | ⟨rfl, _⟩ <;> simp <;> omega
  · have := e2 (Or.inl rfl)
    rw [show dy 3 = 1 from rfl] at s6
    rcases hcs with ⟨rfl, _⟩ | ⟨rfl, _⟩ | ⟨rfl, _⟩ | ⟨rfl, _⟩ <;> simp <;> omega
  · have := e2 (Or.inr rfl)
    rw [show dy 4 = -1 from rfl] at s6
    rcases hcs with ⟨rfl, _⟩ | ⟨rfl, _⟩ | ⟨rfl, _⟩ | ⟨rfl, _⟩ <;> simp <;> omega
theorem way_rises {c : Cf} {a b : Int} (ha : isN c a = true) (hb : isN c b = true) (cs : List Int) (i : Nat) (hi : i + 1 < (fr c a b).toNat) :
    rk c (nd c b cs a i) (pt c b cs a i) < rk c (nd c b cs a (i + 1)) (pt c b cs a (i + 1)) := by
  obtain ⟨_, _, _, h4⟩ := nd_inv ha hb cs i (by omega)
  obtain ⟨g1, g2, g3, g4, g5⟩ := h4 (by omega)
  obtain ⟨_, _, k3, k4⟩ := nd_inv ha hb cs (i + 1) (by omega)
  obtain ⟨l1, l2, _⟩ := k4 hi
  have := rk_lt (q := pt c b cs a (i + 1)) g4 g3 hb (by rw [g5]; exact l1) (by rw [g5]; exact k3 i rfl) (by rw [g5]; exact l2)
  rw [g5] at this
  exact this
end Go.Proofs.YtaohimmmhpmgdaaDoor
