/-
  Nodes of a mesh, their places, who is beside whom, how far two are apart, and all channels, as plain mathematics.
-/
import Derived.Test.YtaohimmmhpmgdaaDoorNodes
namespace Go.Proofs.YtaohimmmhpmgdaaDoor

/-- There is such a node. -/
def isN (c : Cf) (n : Int) : Bool := decide (0 ≤ n) && decide (n < nod c)
/-- Its place, and what the call says of it. -/
def plx (c : Cf) (n : Int) : Int := if isN c n = true then n % c.w else 0
def ply (c : Cf) (n : Int) : Int := if isN c n = true then n / c.w else 0
def ple (c : Cf) (n : Int) : Int := if isN c n = true then 0 else 5
/-- There is such a place, its node, and what the call says of it. -/
def inP (c : Cf) (x y : Int) : Bool := decide (chk c = 0) && ((decide (0 ≤ x) && decide (x < c.w)) && (decide (0 ≤ y) && decide (y < c.h)))
def atn (c : Cf) (x y : Int) : Int := if inP c x y = true then y * c.w + x else 0
def ate (c : Cf) (x y : Int) : Int := if inP c x y = true then 0 else 5
/-- A port's step. -/
def dx (p : Int) : Int := if p = 1 then 1 else if p = 2 then -1 else 0
def dy (p : Int) : Int := if p = 3 then 1 else if p = 4 then -1 else 0
def isP (p : Int) : Bool := decide (0 ≤ p) && decide (p < 5)
/-- Whether there is a node to which the port leads, and which. -/
def bsB (c : Cf) (n p : Int) : Bool := isN c n && (isP p && inP c (plx c n + dx p) (ply c n + dy p))
def bsN (c : Cf) (n p : Int) : Int := if bsB c n p = true then (ply c n + dy p) * c.w + (plx c n + dx p) else 0
/-- The port that leads back. -/
def bck (p : Int) : Int := if p = 0 then 0 else if p = 1 then 2 else if p = 2 then 1 else if p = 3 then 4 else if p = 4 then 3 else -1
/-- How far two numbers are apart. -/
def btw (a b : Int) : Int := if a ≤ b then b - a else a - b
def fr (c : Cf) (a b : Int) : Int := if (isN c a && isN c b) = true then btw (plx c a) (plx c b) + btw (ply c a) (ply c b) else -1
/-- The ports below k that lead from a node to another one. -/
def prtK (c : Cf) (n : Int) (k : Nat) : List Int := ((List.range k).map fun (i : Nat) => (i : Int)).filter fun p => decide (p ≠ 0) && bsB c n p
def prt (c : Cf) (n : Int) : List Int := prtK c n 5
/-- The channels of the nodes below k. -/
def lksK (c : Cf) (k : Nat) : List (Int × Int) := (List.range k).flatMap fun (i : Nat) => (prt c (i : Int)).map fun p => ((i : Int), p)
def lks (c : Cf) : List (Int × Int) := lksK c (nod c).toNat

theorem nod_of {c : Cf} (h : chk c = 0) : nod c = c.w * c.h := by unfold nod; rw [if_pos h]
theorem nod_not {c : Cf} (h : chk c ≠ 0) : nod c = 0 := by unfold nod; rw [if_neg h]
theorem nod_in (c : Cf) : 0 ≤ nod c ∧ nod c ≤ 4096 := by
  by_cases h : chk c = 0
  · have f := fits_of h
    have := mul_in f.w1 f.w2 f.h1 f.h2
    rw [nod_of h]
    omega
  · rw [nod_not h]; omega
theorem isN_ok {c : Cf} {n : Int} (h : isN c n = true) : chk c = 0 ∧ 0 ≤ n ∧ n < c.w * c.h := by
  unfold isN at h
  simp only [Bool.and_eq_true, decide_eq_true_eq] at h
  by_cases hc : chk c = 0
  · rw [nod_of hc] at h
    exact ⟨hc, h.1, h.2⟩
  · rw [nod_not hc] at h
    omega
theorem isN_mk {c : Cf} {n : Int} (h : chk c = 0) (h0 : 0 ≤ n) (h1 : n < c.w * c.h) : isN c n = true := by
  unfold isN
  rw [nod_of h]
  simp [h0, h1]
theorem isN_lt {c : Cf} {n : Int} (h : isN c n = true) : 0 ≤ n ∧ n < 4096 := by
  unfold isN at h
  simp only [Bool.and_eq_true, decide_eq_true_eq] at h
  have := nod_in c
  omega

theorem place_of {c : Cf} {n : Int} (h : isN c n = true) : chk c = 0 ∧ 0 ≤ plx c n ∧ plx c n < c.w ∧ 0 ≤ ply c n ∧ ply c n < c.h ∧ ply c n * c.w + plx c n = n := by
  obtain ⟨hc, h0, h1⟩ := isN_ok h
  have f := fits_of hc
  have hw : 0 < c.w := by have := f.w1; omega
  unfold plx ply
  rw [if_pos h, if_pos h]
  refine ⟨hc, Int.emod_nonneg _ (by omega), Int.emod_lt_of_pos _ hw, Int.ediv_nonneg h0 (by omega), ?_, ?_⟩
  · exact Int.ediv_lt_of_lt_mul hw (by rw [Int.mul_comm]; exact h1)
  · have := Int.mul_ediv_add_emod n c.w
    rw [Int.mul_comm] at this
    exact this
theorem plx_in (c : Cf) (n : Int) : 0 ≤ plx c n ∧ plx c n ≤ 63 := by
  cases h : isN c n with
  | true =>
    obtain ⟨hc, a, b, _⟩ := place_of h
    have := (fits_of hc).w2
    omega
  | false => unfold plx; rw [h]; simp
theorem ply_in (c : Cf) (n : Int) : 0 ≤ ply c n ∧ ply c n ≤ 63 := by
  cases h : isN c n with
  | true =>
    obtain ⟨hc, _, _, a, b, _⟩ := place_of h
    have := (fits_of hc).h2
    omega
  | false => unfold ply; rw [h]; simp
theorem inP_ok {c : Cf} {x y : Int} (h : inP c x y = true) : chk c = 0 ∧ 0 ≤ x ∧ x < c.w ∧ 0 ≤ y ∧ y < c.h := by
  unfold inP at h
  simp only [Bool.and_eq_true, decide_eq_true_eq] at h
  exact ⟨h.1, h.2.1.1, h.2.1.2, h.2.2.1, h.2.2.2⟩
theorem inP_mk {c : Cf} {x y : Int} (h : chk c = 0) (h1 : 0 ≤ x) (h2 : x < c.w) (h3 : 0 ≤ y) (h4 : y < c.h) : inP c x y = true := by
  unfold inP
  simp [h, h1, h2, h3, h4]
theorem node_in {c : Cf} {x y : Int} (h : inP c x y = true) : 0 ≤ y * c.w ∧ y * c.w + x < c.w * c.h ∧ y * c.w ≤ 4096 ∧ c.w * c.h ≤ 4096 := by
  obtain ⟨hc, h1, h2, h3, h4⟩ := inP_ok h
  have f := fits_of hc
  have hw : 0 ≤ c.w := by have := f.w1; omega
  have a : 0 ≤ y * c.w := Int.mul_nonneg h3 hw
  have b : y * c.w ≤ (c.h - 1) * c.w := Int.mul_le_mul_of_nonneg_right (by omega) hw
  have e : (c.h - 1) * c.w = c.w * c.h - c.w := by rw [Int.sub_mul, Int.mul_comm]; omega
  have m := mul_in f.w1 f.w2 f.h1 f.h2
  have := f.w1
  omega
theorem node_of {c : Cf} {x y : Int} (h : inP c x y = true) : isN c (y * c.w + x) = true ∧ plx c (y * c.w + x) = x ∧ ply c (y * c.w + x) = y := by
  obtain ⟨hc, h1, h2, h3, h4⟩ := inP_ok h
  obtain ⟨a, b, _, _⟩ := node_in h
  have i : isN c (y * c.w + x) = true := isN_mk hc (by omega) b
  refine ⟨i, ?_, ?_⟩
  · unfold plx
    rw [if_pos i, Int.add_comm, Int.add_mul_emod_self_right]
    exact Int.emod_eq_of_lt h1 h2
  · unfold ply
    rw [if_pos i, Int.add_comm, Int.add_mul_ediv_right _ _ (by omega), Int.ediv_eq_zero_of_lt h1 h2]
    omega
theorem atn_in (c : Cf) (x y : Int) : 0 ≤ atn c x y ∧ atn c x y < 4096 := by
  unfold atn
  split
  · rename_i h
    obtain ⟨_, h1, _⟩ := inP_ok h
    have := node_in h
    omega
  · omega
theorem bsN_in (c : Cf) (n p : Int) : 0 ≤ bsN c n p ∧ bsN c n p < 4096 := by
  unfold bsN
  split
  · rename_i h
    unfold bsB at h
    simp only [Bool.and_eq_true] at h
    have a := (inP_ok h.2.2).2.1
    have := node_in h.2.2
    omega
  · omega
theorem isP_iff (p : Int) : isP p = true ↔ p = 0 ∨ p = 1 ∨ p = 2 ∨ p = 3 ∨ p = 4 := by
  unfold isP
  simp only [Bool.and_eq_true, decide_eq_true_eq]
  omega

/-- A step that is taken: its places. -/
theorem step_ok {c : Cf} {n p : Int} (h : bsB c n p = true) :
    isN c n = true ∧ isP p = true ∧ inP c (plx c n + dx p) (ply c n + dy p) = true ∧ isN c (bsN c n p) = true ∧ plx c (bsN c n p) = plx c n + dx p ∧ ply c (bsN c n p) = ply c n + dy p := by
  have h' := h
  unfold bsB at h
  simp only [Bool.and_eq_true] at h
  obtain ⟨a, b, d⟩ := h
  have e := node_of d
  unfold bsN
  rw [if_pos h']
  exact ⟨a, b, d, e⟩
theorem step_mk {c : Cf} {n p : Int} (h : isN c n = true) (hp : isP p = true) (h1 : 0 ≤ plx c n + dx p) (h2 : plx c n + dx p < c.w) (h3 : 0 ≤ ply c n + dy p) (h4 : ply c n + dy p < c.h) : bsB c n p = true := by
  unfold bsB
  rw [h, hp, inP_mk (place_of h).1 h1 h2 h3 h4]
  rfl
/-- Two nodes of one place are one. -/
theorem node_eq {c : Cf} {a b : Int} (ha : isN c a = true) (hb : isN c b = true) (hx : plx c a = plx c b) (hy : ply c a = ply c b) : a = b := by
  have ea := (place_of ha).2.2.2.2.2
  have eb := (place_of hb).2.2.2.2.2
  rw [← ea, ← eb, hx, hy]

theorem bck_back {p : Int} (h : isP p = true) : isP (bck p) = true ∧ dx (bck p) = - dx p ∧ dy (bck p) = - dy p ∧ bck (bck p) = p := by
  rcases (isP_iff p).1 h with rfl | rfl | rfl | rfl | rfl <;> decide
theorem dx_in (p : Int) : -1 ≤ dx p ∧ dx p ≤ 1 := by
  unfold dx
  repeat' split
  all_goals omega
theorem dy_in (p : Int) : -1 ≤ dy p ∧ dy p ≤ 1 := by
  unfold dy
  repeat' split
  all_goals omega

/-- P5.2: who is beside one has it beside. -/
theorem back_ok {c : Cf} {n p : Int} (h : bsB c n p = true) : bsB c (bsN c n p) (bck p) = true ∧ bsN c (bsN c n p) (bck p) = n := by
  obtain ⟨h1, h2, h3, h4, h5, h6⟩ := step_ok h
  obtain ⟨b1, b2, b3, _⟩ := bck_back h2
  obtain ⟨_, p1, p2, p3, p4, _⟩ := place_of h1
  have hb : bsB c (bsN c n p) (bck p) = true := step_mk h4 b1 (by omega) (by omega) (by omega) (by omega)
  obtain ⟨_, _, _, k4, k5, k6⟩ := step_ok hb
  exact ⟨hb, node_eq k4 h1 (by omega) (by omega)⟩

theorem btw_comm (a b : Int) : btw a b = btw b a := by unfold btw; split <;> split <;> omega
theorem fr_comm (c : Cf) (a b : Int) : fr c a b = fr c b a := by
  unfold fr
  rw [Bool.and_comm, btw_comm, btw_comm (ply c a)]
theorem fr_ok {c : Cf} {a b : Int} (ha : isN c a = true) (hb : isN c b = true) : fr c a b = btw (plx c a) (plx c b) + btw (ply c a) (ply c b) := by
  unfold fr; rw [ha, hb]; rfl
theorem fr_in (c : Cf) (a b : Int) : -1 ≤ fr c a b ∧ fr c a b ≤ 126 := by
  have a1 := plx_in c a
  have a2 := ply_in c a
  have b1 := plx_in c b
  have b2 := ply_in c b
  unfold fr btw
  split
  · split <;> split <;> omega
  · omega
theorem fr_nonneg {c : Cf} {a b : Int} (ha : isN c a = true) (hb : isN c b = true) : 0 ≤ fr c a b := by
  rw [fr_ok ha hb]; unfold btw; split <;> split <;> omega
theorem fr_zero {c : Cf} {a b : Int} (ha : isN c a = true) (hb : isN c b = true) : fr c a b = 0 ↔ a = b := by
  rw [fr_ok ha hb]
  constructor
  · intro h
    refine node_eq ha hb ?_ ?_ <;> (unfold btw at h; revert h; split <;> split <;> intro h <;> omega)
  · rintro rfl
    unfold btw; simp
theorem fr_tri {c : Cf} {a b k : Int} (ha : isN c a = true) (hb : isN c b = true) (hk : isN c k = true) : fr c a b ≤ fr c a k + fr c k b := by
  rw [fr_ok ha hb, fr_ok ha hk, fr_ok hk hb]
  have t : ∀ x y z : Int, btw x y ≤ btw x z + btw z y := fun x y z => by unfold btw; split <;> split <;> split <;> omega
  have := t (plx c a) (plx c b) (plx c k)
  have := t (ply c a) (ply c b) (ply c k)
  omega
/-- A step changes how far it is by one. -/
theorem fr_step {c : Cf} {a b p : Int} (h : bsB c a p = true) (hp : p ≠ 0) (hb : isN c b = true) : fr c (bsN c a p) b = fr c a b + 1 ∨ fr c (bsN c a p) b = fr c a b - 1 := by
  obtain ⟨h1, h2, h3, h4, h5, h6⟩ := step_ok h
  rw [fr_ok h4 hb, fr_ok h1 hb, h5, h6]
  have g1 : p = 1 ∨ p = 2 ∨ p = 3 ∨ p = 4 := by have := (isP_iff p).1 h2; omega
  rcases g1 with rfl | rfl | rfl | rfl
  · rw [show dx 1 = 1 from rfl, show dy 1 = 0 from rfl, Int.add_zero]; unfold btw; split <;> split <;> split <;> omega
  · rw [show dx 2 = -1 from rfl, show dy 2 = 0 from rfl, Int.add_zero]; unfold btw; split <;> split <;> split <;> omega
  · rw [show dx 3 = 0 from rfl, show dy 3 = 1 from rfl, Int.add_zero]; unfold btw; split <;> split <;> split <;> omega
  · rw [show dx 4 = 0 from rfl, show dy 4 = -1 from rfl, Int.add_zero]; unfold btw; split <;> split <;> split <;> omega
/-- Steps along one way and along the other may be taken in whatever row. -/
theorem cross {c : Cf} {n p q : Int} (h1 : bsB c n p = true) (h2 : bsB c n q = true) (hp : 1 ≤ p) (hq : 1 ≤ q) (ha : (decide (p < 3)) ≠ decide (q < 3)) :
    bsB c (bsN c n p) q = true ∧ bsB c (bsN c n q) p = true ∧ bsN c (bsN c n p) q = bsN c (bsN c n q) p ∧ fr c n (bsN c (bsN c n p) q) = 2 := by
  obtain ⟨a1, a2, a3, a4, a5, a6⟩ := step_ok h1
  obtain ⟨b1, b2, b3, b4, b5, b6⟩ := step_ok h2
  obtain ⟨_, i1, i2, i3, i4⟩ := inP_ok a3
  obtain ⟨_, j1, j2, j3, j4⟩ := inP_ok b3
  obtain ⟨_, n1, n2, n3, n4, _⟩ := place_of a1
  have g1 : p = 1 ∨ p = 2 ∨ p = 3 ∨ p = 4 := by have := (isP_iff p).1 a2; omega
  have g2 : q = 1 ∨ q = 2 ∨ q = 3 ∨ q = 4 := by have := (isP_iff q).1 b2; omega
  have d : (dx p = 0 ∧ (dx q = 1 ∨ dx q = -1) ∧ dy q = 0 ∧ (dy p = 1 ∨ dy p = -1)) ∨ (dx q = 0 ∧ (dx p = 1 ∨ dx p = -1) ∧ dy p = 0 ∧ (dy q = 1 ∨ dy q = -1)) := by
    rcases g1 with rfl | rfl | rfl | rfl <;> rcases g2 with rfl | rfl | rfl | rfl <;> first | exact absurd rfl ha | decide
  have x1 : bsB c (bsN c n p) q = true := step_mk a4 b2 (by omega) (by omega) (by omega) (by omega)
  have x2 : bsB c (bsN c n q) p = true := step_mk b4 a2 (by omega) (by omega) (by omega) (by omega)
  obtain ⟨_, _, _, k4, k5, k6⟩ := step_ok x1
  obtain ⟨_, _, _, l4, l5, l6⟩ := step_ok x2
  refine ⟨x1, x2, node_eq k4 l4 (by omega) (by omega), ?_⟩
  rw [fr_ok a1 k4]
  unfold btw
  split <;> split <;> omega

theorem prtK_succ (c : Cf) (n : Int) (k : Nat) : prtK c n (k + 1) = if (decide ((k : Int) ≠ 0) && bsB c n k) = true then prtK c n k ++ [(k : Int)] else prtK c n k := by
  unfold prtK
  rw [List.range_succ, List.map_append, List.filter_append]
  simp only [List.map_cons, List.map_nil, List.filter_cons, List.filter_nil]
  split <;> simp
theorem prtK_length (c : Cf) (n : Int) (k : Nat) : (prtK c n k).length ≤ k := by
  unfold prtK
  refine Nat.le_trans (List.length_filter_le _ _) ?_
  simp
theorem lksK_succ (c : Cf) (k : Nat) : lksK c (k + 1) = lksK c k ++ (prt c k).map fun p => ((k : Int), p) := by
  unfold lksK
  rw [List.range_succ, List.flatMap_append]
  simp
theorem lksK_length (c : Cf) (k : Nat) : (lksK c k).length ≤ k * 5 := by
  induction k with
  | zero => simp [lksK]
  | succ k ih =>
    rw [lksK_succ, List.length_append, List.length_map]
    have := prtK_length c k 5
    unfold prt
    omega
end Go.Proofs.YtaohimmmhpmgdaaDoor
