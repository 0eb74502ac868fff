/-
  Where a packet may go, which turns are allowed, and the way along x first, as plain mathematics (layer 6).
-/
import Derived.Test.YtaohimmmhpmgdaaDoorPlain
namespace Go.Proofs.YtaohimmmhpmgdaaDoor

/-- How much x and y of the destination are more. -/
def ox (c : Cf) (a b : Int) : Int := plx c b - plx c a
def oy (c : Cf) (a b : Int) : Int := ply c b - ply c a
/-- Along y. -/
def optY (d : Int) : List Int := if 0 < d then [3] else if d < 0 then [4] else []
/-- The ports by which a packet may go. -/
def opt (c : Cf) (a b : Int) : List Int :=
  if (isN c a && isN c b) = true then
    if a = b then [0] else if ox c a b < 0 then [2] else if 0 < ox c a b then (1 :: if c.we = true then optY (oy c a b) else []) else optY (oy c a b)
  else []
/-- A choice's distance from 0, or from -1. -/
def chAbs (k : Int) : Int := if k < 0 then -(k + 1) else k
def chP (l : List Int) (k : Int) : Int := if l.length = 0 then 0 else l.getD ((chAbs k) % (l.length : Int)).toNat 0
def chB (l : List Int) : Bool := decide (l.length ≠ 0)
/-- Whether a packet that came through a port may leave by another one. -/
def alw (f t : Int) : Bool :=
  if (isP f && isP t) = true then (if f = 0 ∨ t = 0 then true else if t = 2 then decide (f = 2) else decide (f ≠ bck t)) else false
/-- The way along x first. -/
def strX (d : Int) : List Int := if d < 0 then List.replicate (-d).toNat 2 else List.replicate d.toNat 1
def strY (d : Int) : List Int := if d < 0 then List.replicate (-d).toNat 4 else List.replicate d.toNat 3
def str (c : Cf) (a b : Int) : List Int := if (isN c a && isN c b) = true then strX (ox c a b) ++ (strY (oy c a b) ++ [0]) else []

theorem opt_self {c : Cf} {a : Int} (h : isN c a = true) : opt c a a = [0] := by unfold opt; rw [h]; simp
theorem opt_no {c : Cf} {a b : Int} (h : (isN c a && isN c b) = false) : opt c a b = [] := by unfold opt; rw [h]; rfl

theorem chAbs_in {k : Int} (h1 : -9223372036854775808 ≤ k) (h2 : k ≤ 9223372036854775807) : 0 ≤ chAbs k ∧ chAbs k ≤ 9223372036854775807 := by unfold chAbs; split <;> omega
theorem chP_mem {l : List Int} (h : l.length ≠ 0) (k : Int) : chP l k ∈ l := by
  unfold chP
  rw [if_neg h]
  have h0 : 0 ≤ chAbs k % (l.length : Int) := Int.emod_nonneg _ (by omega)
  have h1 : chAbs k % (l.length : Int) < l.length := Int.emod_lt_of_pos _ (by omega)
  have hl : (chAbs k % (l.length : Int)).toNat < l.length := by omega
  rw [List.getD_eq_getElem?_getD, List.getElem?_eq_getElem hl]
  exact List.getElem_mem _

/-- What an option of two nodes that are not one is. -/
theorem opt_cases {c : Cf} {a b p : Int} (ha : isN c a = true) (hb : isN c b = true) (hne : a ≠ b) (h : p ∈ opt c a b) :
    (p = 2 ∧ ox c a b < 0) ∨ (p = 1 ∧ 0 < ox c a b) ∨ (p = 3 ∧ 0 ≤ ox c a b ∧ 0 < oy c a b) ∨ (p = 4 ∧ 0 ≤ ox c a b ∧ oy c a b < 0) := by
  unfold opt at h
  rw [ha, hb] at h
  simp only [Bool.and_self, if_true, if_neg hne] at h
  have hy : ∀ d, p ∈ optY d → (p = 3 ∧ 0 < d) ∨ (p = 4 ∧ d < 0) := fun d hd => by
    unfold optY at hd
    split at hd
    · simp at hd; omega
    · split at hd
      · simp at hd; omega
      · cases hd
  split at h
  · simp at h; omega
  · split at h
    · rw [List.mem_cons] at h
      rcases h with rfl | h
      · omega
      · split at h
        · have := hy _ h
          omega
        · cases h
    · have := hy _ h
      omega

theorem off_zero {c : Cf} {a b : Int} (ha : isN c a = true) (hb : isN c b = true) (hne : a ≠ b) : ¬ (ox c a b = 0 ∧ oy c a b = 0) := fun ⟨h1, h2⟩ => by
  unfold ox at h1
  unfold oy at h2
  exact hne (node_eq ha hb (by omega) (by omega))

theorem optY_len (d : Int) : (optY d).length ≤ 1 ∧ (d ≠ 0 → (optY d).length = 1) ∧ (d = 0 → optY d = []) := by
  unfold optY
  refine ⟨?_, fun h => ?_, fun h => ?_⟩
  · split
    · simp
    · split <;> simp
  · split
    · rfl
    · rw [if_pos (by omega)]; rfl
  · rw [if_neg (by omega), if_neg (by omega)]

/-- One option at least, and two at most. -/
theorem opt_len {c : Cf} {a b : Int} (ha : isN c a = true) (hb : isN c b = true) : 1 ≤ (opt c a b).length ∧ (opt c a b).length ≤ 2 ∧ (c.we = false → (opt c a b).length = 1) := by
  unfold opt
  rw [ha, hb]
  simp only [Bool.and_self, if_true]
  by_cases hne : a = b
  · rw [if_pos hne]; simp
  · rw [if_neg hne]
    have z := off_zero ha hb hne
    have y := optY_len (oy c a b)
    split
    · simp
    · split
      · cases c.we
        · simp
        · simp; omega
      · have : (optY (oy c a b)).length = 1 := y.2.1 (by omega)
        omega
/-- Two options are not one. -/
theorem opt_two {c : Cf} {a b p q : Int} (h : opt c a b = [p, q]) : p ≠ q := by
  unfold opt at h
  have hy : ∀ d, optY d ≠ [p, q] := fun d e => by
    have := (optY_len d).1
    rw [e] at this
    simp at this
  split at h
  · split at h
    · simp at h
    · split at h
      · simp at h
      · split at h
        · rw [List.cons.injEq] at h
          obtain ⟨rfl, h⟩ := h
          split at h
          · unfold optY at h
            split at h
            · simp at h; omega
            · split at h
              · simp at h; omega
              · simp at h
          · simp at h
        · exact absurd h (hy _)
  · simp at h

/-- P6.2: each option leads one step nearer. -/
theorem opt_near {c : Cf} {a b p : Int} (ha : isN c a = true) (hb : isN c b = true) (hne : a ≠ b) (h : p ∈ opt c a b) :
    p ≠ 0 ∧ bsB c a p = true ∧ fr c (bsN c a p) b = fr c a b - 1 := by
  have hc := opt_cases ha hb hne h
  obtain ⟨_, a1, a2, a3, a4, _⟩ := place_of ha
  obtain ⟨_, b1, b2, b3, b4, _⟩ := place_of hb
  unfold ox oy at hc
  have hp : p = 1 ∨ p = 2 ∨ p = 3 ∨ p = 4 := by omega
  have hs : bsB c a p = true := by
    have d : (p = 1 ∧ dx p = 1 ∧ dy p = 0) ∨ (p = 2 ∧ dx p = -1 ∧ dy p = 0) ∨ (p = 3 ∧ dx p = 0 ∧ dy p = 1) ∨ (p = 4 ∧ dx p = 0 ∧ dy p = -1) := by
      rcases hp with rfl | rfl | rfl | rfl <;> decide
    exact step_mk ha ((isP_iff p).2 (by omega)) (by omega) (by omega) (by omega) (by omega)
  obtain ⟨_, _, _, s4, s5, s6⟩ := step_ok hs
  refine ⟨by omega, hs, ?_⟩
  rw [fr_ok s4 hb, fr_ok ha hb, s5, s6]
  unfold btw
  rcases hp with rfl | rfl | rfl | rfl
  · rw [show dx 1 = 1 from rfl, show dy 1 = 0 from rfl]; split <;> split <;> split <;> omega
  · rw [show dx 2 = -1 from rfl, show dy 2 = 0 from rfl]; split <;> split <;> split <;> omega
  · rw [show dx 3 = 0 from rfl, show dy 3 = 1 from rfl]; split <;> split <;> split <;> omega
  · rw [show dx 4 = 0 from rfl, show dy 4 = -1 from rfl]; split <;> split <;> split <;> omega

/-- What the last port says of where a packet is. -/
def Went (c : Cf) (last a b : Int) : Prop :=
  last = 0 ∨ (last = 1 ∧ 0 ≤ ox c a b) ∨ (last = 2 ∧ ox c a b ≤ 0) ∨ (last = 3 ∧ 0 ≤ ox c a b ∧ 0 ≤ oy c a b) ∨ (last = 4 ∧ 0 ≤ ox c a b ∧ oy c a b ≤ 0)
/-- P6.2: a packet that goes by options takes allowed turns alone. -/
theorem went_ok {c : Cf} {last a b p : Int} (ha : isN c a = true) (hb : isN c b = true) (hne : a ≠ b) (hw : Went c last a b) (h : p ∈ opt c a b) : alw last p = true := by
  have hc := opt_cases ha hb hne h
  have hp : p = 1 ∨ p = 2 ∨ p = 3 ∨ p = 4 := by omega
  have hl : last = 0 ∨ last = 1 ∨ last = 2 ∨ last = 3 ∨ last = 4 := by unfold Went at hw; omega
  unfold Went at hw
  rcases hp with rfl | rfl | rfl | rfl <;> rcases hl with rfl | rfl | rfl | rfl | rfl <;> first | decide | (exfalso; omega)
theorem went_next {c : Cf} {a b p : Int} (ha : isN c a = true) (hb : isN c b = true) (hne : a ≠ b) (h : p ∈ opt c a b) : Went c p (bsN c a p) b := by
  have hc := opt_cases ha hb hne h
  obtain ⟨_, hs, _⟩ := opt_near ha hb hne h
  obtain ⟨_, _, _, s4, s5, s6⟩ := step_ok hs
  unfold Went
  unfold ox oy at *
  rw [s5, s6]
  rcases hc with ⟨rfl, _⟩ | ⟨rfl, _⟩ | ⟨rfl, _⟩ | ⟨rfl, _⟩
  · rw [show dx 2 = -1 from rfl]; omega
  · rw [show dx 1 = 1 from rfl]; omega
  · rw [show dx 3 = 0 from rfl, show dy 3 = 1 from rfl]; omega
  · rw [show dx 4 = 0 from rfl, show dy 4 = -1 from rfl]; omega

/-- Nothing but which options there are hangs on how packets go. -/
theorem chk_we (c : Cf) (t : Bool) : chk { c with we := t } = chk c := rfl
theorem isN_we (c : Cf) (t : Bool) (n : Int) : isN { c with we := t } n = isN c n := rfl
theorem plx_we (c : Cf) (t : Bool) (n : Int) : plx { c with we := t } n = plx c n := rfl
theorem ply_we (c : Cf) (t : Bool) (n : Int) : ply { c with we := t } n = ply c n := rfl
theorem bsB_we (c : Cf) (t : Bool) (n p : Int) : bsB { c with we := t } n p = bsB c n p := rfl
theorem bsN_we (c : Cf) (t : Bool) (n p : Int) : bsN { c with we := t } n p = bsN c n p := rfl
theorem fr_we (c : Cf) (t : Bool) (a b : Int) : fr { c with we := t } a b = fr c a b := rfl
theorem str_we (c : Cf) (t : Bool) (a b : Int) : str { c with we := t } a b = str c a b := rfl

theorem strX_neg {d : Int} (h : d < 0) : strX d = 2 :: strX (d - -1) := by
  obtain ⟨k, hk⟩ : ∃ k : Nat, -d = k + 1 := ⟨(-d - 1).toNat, by omega⟩
  unfold strX
  rw [if_pos h, show (-d).toNat = k + 1 by omega, List.replicate_succ]
  by_cases h2 : d - -1 < 0
  · rw [if_pos h2, show (-(d - -1)).toNat = k by omega]
  · rw [if_neg h2, show (d - -1).toNat = 0 by omega, show k = 0 by omega]
    rfl
theorem strX_pos {d : Int} (h : 0 < d) : strX d = 1 :: strX (d - 1) := by
  obtain ⟨k, hk⟩ : ∃ k : Nat, d = k + 1 := ⟨(d - 1).toNat, by omega⟩
  unfold strX
  rw [if_neg (by omega : ¬ d < 0), if_neg (by omega : ¬ d - 1 < 0), show d.toNat = k + 1 by omega, List.replicate_succ, show (d - 1).toNat = k by omega]
theorem strY_neg {d : Int} (h : d < 0) : strY d = 4 :: strY (d - -1) := by
  obtain ⟨k, hk⟩ : ∃ k : Nat, -d = k + 1 := ⟨(-d - 1).toNat, by omega⟩
  unfold strY
  rw [if_pos h, show (-d).toNat = k + 1 by omega, List.replicate_succ]
  by_cases h2 : d - -1 < 0
  · rw [if_pos h2, show (-(d - -1)).toNat = k by omega]
  · rw [if_neg h2, show (d - -1).toNat = 0 by omega, show k = 0 by omega]
    rfl
theorem strY_pos {d : Int} (h : 0 < d) : strY d = 3 :: strY (d - 1) := by
  obtain ⟨k, hk⟩ : ∃ k : Nat, d = k + 1 := ⟨(d - 1).toNat, by omega⟩
  unfold strY
  rw [if_neg (by omega : ¬ d < 0), if_neg (by omega : ¬ d - 1 < 0), show d.toNat = k + 1 by omega, List.replicate_succ, show (d - 1).toNat = k by omega]

/-- The way along x first begins with the option, and goes on from where it leads. -/
theorem str_self {c : Cf} {a : Int} (ha : isN c a = true) : str c a a = [0] := by
  unfold str
  rw [ha]
  unfold ox oy strX strY
  simp
theorem str_step {c : Cf} {a b p : Int} (ha : isN c a = true) (hb : isN c b = true) (hne : a ≠ b) (h : opt { c with we := false } a b = [p]) : str c a b = p :: str c (bsN c a p) b := by
  have hm : p ∈ opt { c with we := false } a b := by rw [h]; simp
  have hn := opt_near (c := { c with we := false }) ha hb hne hm
  have hs : bsB c a p = true := hn.2.1
  obtain ⟨_, _, _, s4, s5, s6⟩ := step_ok hs
  have hc : (p = 2 ∧ ox c a b < 0) ∨ (p = 1 ∧ 0 < ox c a b) ∨ (p = 3 ∧ ox c a b = 0 ∧ 0 < oy c a b) ∨ (p = 4 ∧ ox c a b = 0 ∧ oy c a b < 0) := by
    have h1 := opt_cases (c := { c with we := false }) ha hb hne hm
    have e1 : ox { c with we := false } a b = ox c a b := rfl
    have e2 : oy { c with we := false } a b = oy c a b := rfl
    rw [e1, e2] at h1
    have h2 : 0 < ox c a b → p = 1 := fun hx => by
      unfold opt at h
      have e0 : (isN { c with we := false } a && isN { c with we := false } b) = true := by
        show (isN c a && isN c b) = true
        rw [ha, hb]
        rfl
      rw [e0, if_pos rfl, if_neg hne, e1, if_neg (by omega), if_pos hx] at h
      simp at h
      exact h.symm
    omega
  unfold str
  rw [ha, hb, s4]
  simp only [Bool.and_self, if_true]
  have ex : ox c (bsN c a p) b = ox c a b - dx p := by unfold ox; rw [s5]; omega
  have ey : oy c (bsN c a p) b = oy c a b - dy p := by unfold oy; rw [s6]; omega
  rw [ex, ey]
  generalize ox c a b = X at *
  generalize oy c a b = Y at *
  rcases hc with ⟨rfl, h1⟩ | ⟨rfl, h1⟩ | ⟨rfl, h1, h2⟩ | ⟨rfl, h1, h2⟩
  · rw [show dx 2 = -1 from rfl, show dy 2 = 0 from rfl, Int.sub_zero, strX_neg h1]; rfl
  · rw [show dx 1 = 1 from rfl, show dy 1 = 0 from rfl, Int.sub_zero, strX_pos h1]; rfl
  · rw [show dx 3 = 0 from rfl, show dy 3 = 1 from rfl, Int.sub_zero, h1, strY_pos h2]; rfl
  · rw [show dx 4 = 0 from rfl, show dy 4 = -1 from rfl, Int.sub_zero, h1, strY_neg h2]; rfl

theorem strX_len (d : Int) : ((strX d).length : Int) = btw 0 d := by
  unfold strX btw
  split
  · rw [if_neg (by omega), List.length_replicate]; omega
  · rw [if_pos (by omega), List.length_replicate]; omega
theorem strY_len (d : Int) : ((strY d).length : Int) = btw 0 d := by
  unfold strY btw
  split
  · rw [if_neg (by omega), List.length_replicate]; omega
  · rw [if_pos (by omega), List.length_replicate]; omega
theorem str_len {c : Cf} {a b : Int} (ha : isN c a = true) (hb : isN c b = true) : ((str c a b).length : Int) = fr c a b + 1 := by
  unfold str
  rw [ha, hb]
  simp only [Bool.and_self, if_true, List.length_append, List.length_cons, List.length_nil]
  have h1 := strX_len (ox c a b)
  have h2 := strY_len (oy c a b)
  have e1 : btw 0 (ox c a b) = btw (plx c a) (plx c b) := by unfold btw ox; split <;> split <;> omega
  have e2 : btw 0 (oy c a b) = btw (ply c a) (ply c b) := by unfold btw oy; split <;> split <;> omega
  rw [fr_ok ha hb]
  omega
theorem str_last {c : Cf} {a b : Int} (ha : isN c a = true) (hb : isN c b = true) : ∃ l, str c a b = l ++ [0] := by
  unfold str
  rw [ha, hb]
  exact ⟨strX (ox c a b) ++ strY (oy c a b), by simp⟩

/-- It turns once at most: behind the last step along x. -/
theorem strX_form (d : Int) : ∃ n v, strX d = List.replicate n v := by unfold strX; split <;> exact ⟨_, _, rfl⟩
theorem strY_form (d : Int) : ∃ n v, strY d = List.replicate n v := by unfold strY; split <;> exact ⟨_, _, rfl⟩
theorem str_same {c : Cf} {a b : Int} (ha : isN c a = true) (hb : isN c b = true) (i : Nat) (hi : i + 2 < (str c a b).length) (hne : i + 1 ≠ (strX (ox c a b)).length) :
    (str c a b).getD i 0 = (str c a b).getD (i + 1) 0 := by
  unfold str at hi ⊢
  rw [ha, hb] at hi ⊢
  simp only [Bool.and_self, if_true] at hi ⊢
  obtain ⟨n, v, hx⟩ := strX_form (ox c a b)
  obtain ⟨m, u, hy⟩ := strY_form (oy c a b)
  rw [hx, hy] at hi ⊢
  rw [hx] at hne
  simp only [List.length_append, List.length_replicate, List.length_cons, List.length_nil] at hi hne
  have g : ∀ j, j < n → (List.replicate n v ++ (List.replicate m u ++ [0])).getD j 0 = v := fun j hj => by
    rw [List.getD_eq_getElem?_getD, List.getElem?_append_left (by simpa using hj), List.getElem?_replicate, if_pos hj]
    rfl
  have k : ∀ j, n ≤ j → j < n + m → (List.replicate n v ++ (List.replicate m u ++ [0])).getD j 0 = u := fun j h1 h2 => by
    rw [List.getD_eq_getElem?_getD, List.getElem?_append_right (by simpa using h1), List.length_replicate, List.getElem?_append_left (by simp; omega), List.getElem?_replicate, if_pos (by omega)]
    rfl
  rcases Nat.lt_or_ge i n with h | h
  · rw [g i h, g (i + 1) (by omega)]
  · rw [k i h (by omega), k (i + 1) (by omega) (by omega)]

/-- Both ways of going: one option along x first, which is the first one west first, and the way's first step; two just if it may go East, and North or South. -/
theorem ways {c : Cf} {a b : Int} (ha : isN c a = true) (hb : isN c b = true) :
    ∃ p l r, opt { c with we := false } a b = [p] ∧ opt { c with we := true } a b = p :: l ∧ str c a b = p :: r ∧ (l.length = 1 ↔ (plx c a < plx c b ∧ ply c b ≠ ply c a)) ∧ l.length ≤ 1 := by
  have ha0 : isN { c with we := false } a = true := ha
  have hb0 : isN { c with we := false } b = true := hb
  have ha1 : isN { c with we := true } a = true := ha
  have hb1 : isN { c with we := true } b = true := hb
  by_cases hne : a = b
  · subst hne
    exact ⟨0, [], [], opt_self ha0, opt_self ha1, str_self ha, by simp, by simp⟩
  · have hl := (opt_len ha0 hb0).2.2 rfl
    obtain ⟨p, hp⟩ : ∃ p, opt { c with we := false } a b = [p] := List.length_eq_one_iff.1 hl
    have hs := str_step ha hb hne hp
    have e1 : ∀ t, ox { c with we := t } a b = ox c a b := fun _ => rfl
    have e2 : ∀ t, oy { c with we := t } a b = oy c a b := fun _ => rfl
    have i0 : (isN { c with we := false } a && isN { c with we := false } b) = true := by rw [ha0, hb0]; rfl
    have i1 : (isN { c with we := true } a && isN { c with we := true } b) = true := by rw [ha1, hb1]; rfl
    have y := optY_len (oy c a b)
    unfold opt at hp
    rw [i0, if_pos rfl, if_neg hne, e1, e2] at hp
    have w : ∀ l, opt { c with we := true } a b = p :: l ↔ (if ox c a b < 0 then [2] else if 0 < ox c a b then (1 :: optY (oy c a b)) else optY (oy c a b)) = p :: l := fun l => by
      unfold opt
      rw [i1, if_pos rfl, if_neg hne, e1, e2]
      simp
    by_cases h1 : ox c a b < 0
    · rw [if_pos h1] at hp
      have : p = 2 := by simpa using hp.symm
      subst this
      refine ⟨2, [], _, by unfold opt; rw [i0, if_pos rfl, if_neg hne, e1, if_pos h1], (w []).2 (by rw [if_pos h1]), hs, ?_, by simp⟩
      unfold ox at h1
      simp
      omega
    · rw [if_neg h1] at hp
      by_cases h2 : 0 < ox c a b
      · rw [if_pos h2] at hp
        have : p = 1 := by simpa using hp.symm
        subst this
        refine ⟨1, optY (oy c a b), _, by unfold opt; rw [i0, if_pos rfl, if_neg hne, e1, if_neg h1, if_pos h2]; simp, (w _).2 (by rw [if_neg h1, if_pos h2]), hs, ?_, y.1⟩
        constructor
        · intro h
          refine ⟨by unfold ox at h2; omega, fun e => ?_⟩
          have := y.2.2 (by unfold oy; omega)
          rw [this] at h
          simp at h
        · intro h
          exact y.2.1 (by unfold oy; omega)
      · rw [if_neg h2] at hp
        refine ⟨p, [], _, by unfold opt; rw [i0, if_pos rfl, if_neg hne, e1, e2, if_neg h1, if_neg h2]; exact hp, (w []).2 (by rw [if_neg h1, if_neg h2]; exact hp), hs, ?_, by simp⟩
        unfold ox at h2
        simp
        omega
end Go.Proofs.YtaohimmmhpmgdaaDoor
