/-
  An inbox as lists: what is in it, what waits, the next numbers; what its calls come to. Plain: no walk.
-/
import Derived.Test.YtpmkpjnhdehnhaaPkB
namespace Go.Proofs.Ytpmkpjnhdehnhaa

structure IS where
  n : Nat
  L : List Pk
  W : List Pk
  nx : Int → Int
def inR (p : Pk) : Prop := 0 ≤ p.s ∧ p.s < 4096 ∧ 0 ≤ p.q ∧ p.q < 65536
instance (p : Pk) : Decidable (inR p) := inferInstanceAs (Decidable (_ ∧ _))
/-- Of those that are their source's next one, that of the least source. -/
def pick (nx : Int → Int) : List Pk → Option Pk
  | [] => none
  | p :: l => match pick nx l with
    | none => if p.q = nx p.s then some p else none
    | some r => if p.q = nx p.s ∧ p.s ≤ r.s then some p else some r
/-- No two of one source and number. -/
def Apart (W : List Pk) : Prop := W.Pairwise (fun x y => ¬ (x.s = y.s ∧ x.q = y.q))
structure IOk (S : IS) : Prop where
  n1 : 1 ≤ S.n
  n64 : S.n ≤ 64
  len : S.L.length ≤ S.n
  rng : ∀ p ∈ S.W, inR p
  ap : Apart S.W
  nx0 : ∀ s, 0 ≤ S.nx s ∧ S.nx s < 65536
def newI (n : Nat) : IS := ⟨n, [], [], fun _ => 0⟩
def has (W : List Pk) (p : Pk) : Bool := W.any fun r => r.s == p.s && r.q == p.q
def comeE (S : IS) (p : Pk) : Int := if inR p then (if has S.W p then 13 else 0) else 1
def comeS (S : IS) (p : Pk) : IS := if inR p then (if has S.W p then S else { S with W := S.W ++ [p] }) else S
def strike (W : List Pk) (p : Pk) : List Pk := W.filter fun r => !(r.s == p.s && r.q == p.q)
def upd (nx : Int → Int) (s q : Int) : Int → Int := fun x => if x = s then q else nx x
def rdy (S : IS) : Option Pk := pick S.nx S.W
def tellB (S : IS) : Bool := decide (S.L.length < S.n) && (rdy S).isSome
def told (S : IS) (p : Pk) : IS := { S with L := S.L ++ [p], W := strike S.W p, nx := upd S.nx p.s ((p.q + 1) % 65536) }
def tellS (S : IS) : IS := if S.L.length < S.n then (match rdy S with | none => S | some p => told S p) else S
def recvV (S : IS) : Pk := S.L.headD zpk
def recvE (S : IS) : Int := if S.L = [] then 8 else 0
def recvS (S : IS) : IS := { S with L := S.L.tail }

theorem has_iff {W : List Pk} {p : Pk} : has W p = true ↔ ∃ r ∈ W, r.s = p.s ∧ r.q = p.q := by
  unfold has
  simp
theorem has_not {W : List Pk} {p : Pk} : has W p = false ↔ ∀ r ∈ W, ¬ (r.s = p.s ∧ r.q = p.q) := by
  rw [← Bool.not_eq_true, has_iff]
  exact ⟨fun h r hr hc => h ⟨r, hr, hc⟩, fun h ⟨r, hr, hc⟩ => h r hr hc⟩
theorem pick_none {nx : Int → Int} : ∀ {W : List Pk}, pick nx W = none → ∀ p ∈ W, p.q ≠ nx p.s
  | [], _, p, hp => by cases hp
  | x :: l, h, p, hp => by
    unfold pick at h
    split at h
    · rename_i h0
      split at h
      · cases h
      · rename_i hx
        rcases List.mem_cons.1 hp with rfl | hp
        · exact hx
        · exact pick_none h0 p hp
    · split at h <;> cases h
theorem pick_some {nx : Int → Int} : ∀ {W : List Pk} {p : Pk}, pick nx W = some p → p ∈ W ∧ p.q = nx p.s ∧ ∀ r ∈ W, r.q = nx r.s → p.s ≤ r.s
  | [], _, h => by cases h
  | x :: l, p, h => by
    unfold pick at h
    split at h
    · rename_i h0
      split at h
      · rename_i hx
        cases h
        refine ⟨List.mem_cons_self, hx, fun r hr hq => ?_⟩
        rcases List.mem_cons.1 hr with rfl | hr
        · exact Int.le_refl _
        · exact absurd hq (pick_none h0 r hr)
      · cases h
    · rename_i r0 h0
      obtain ⟨a1, a2, a3⟩ := pick_some h0
      split at h
      · rename_i hx
        cases h
        refine ⟨List.mem_cons_self, hx.1, fun r hr hq => ?_⟩
        rcases List.mem_cons.1 hr with rfl | hr
        · exact Int.le_refl _
        · exact Int.le_trans hx.2 (a3 r hr hq)
      · rename_i hx
        cases h
        refine ⟨List.mem_cons_of_mem _ a1, a2, fun r hr hq => ?_⟩
        rcases List.mem_cons.1 hr with rfl | hr
        · have : ¬ r.s ≤ p.s := fun c => hx ⟨hq, c⟩
          omega
        · exact a3 r hr hq
theorem apart_uniq : ∀ {W : List Pk} (_ : Apart W) {x y : Pk}, x ∈ W → y ∈ W → x.s = y.s → x.q = y.q → x = y
  | [], _, _, _, hx, _, _, _ => by cases hx
  | a :: l, h, x, y, hx, hy, h1, h2 => by
    obtain ⟨k1, k2⟩ := List.pairwise_cons.1 h
    rcases List.mem_cons.1 hx with ex | hx
    · rcases List.mem_cons.1 hy with ey | hy
      · rw [ex, ey]
      · exact absurd ⟨by rw [← ex]; exact h1, by rw [← ex]; exact h2⟩ (k1 y hy)
    · rcases List.mem_cons.1 hy with ey | hy
      · exact absurd ⟨by rw [← ey]; exact h1.symm, by rw [← ey]; exact h2.symm⟩ (k1 x hx)
      · exact apart_uniq k2 hx hy h1 h2
/-- It hangs on no row. -/
theorem pick_uniq {nx : Int → Int} {W : List Pk} (hW : Apart W) {p : Pk} (hp : p ∈ W) (hq : p.q = nx p.s) (hl : ∀ r ∈ W, r.q = nx r.s → p.s ≤ r.s) : pick nx W = some p := by
  cases h : pick nx W with
  | none => exact absurd hq (pick_none h p hp)
  | some r =>
    obtain ⟨a1, a2, a3⟩ := pick_some h
    have e : r.s = p.s := Int.le_antisymm (a3 p hp hq) (hl r a1 a2)
    rw [apart_uniq hW a1 hp e (by rw [a2, hq, e])]
theorem pick_no {nx : Int → Int} {W : List Pk} (h : ∀ p ∈ W, p.q ≠ nx p.s) : pick nx W = none := by
  cases e : pick nx W with
  | none => rfl
  | some r => exact absurd (pick_some e).2.1 (h r (pick_some e).1)
theorem pick_congr {nx nx' : Int → Int} : ∀ {W : List Pk}, (∀ p ∈ W, nx p.s = nx' p.s) → pick nx W = pick nx' W
  | [], _ => rfl
  | x :: l, h => by
    unfold pick
    rw [pick_congr fun p hp => h p (List.mem_cons_of_mem _ hp), h x List.mem_cons_self]
theorem strike_cut {W : List Pk} (hW : Apart W) {A B : List Pk} {p : Pk} (e : W = A ++ p :: B) : strike W p = A ++ B := by
  subst e
  unfold Apart at hW
  rw [List.pairwise_append, List.pairwise_cons] at hW
  obtain ⟨_, ⟨h2, _⟩, h3⟩ := hW
  unfold strike
  rw [List.filter_append, List.filter_cons_of_neg (by simp), List.filter_eq_self.2, List.filter_eq_self.2]
  · intro x hx
    have := h2 x hx
    simp only [Bool.not_eq_true', Bool.and_eq_false_iff, beq_eq_false_iff_ne]
    by_cases c : x.s = p.s
    · exact Or.inr fun c' => this ⟨c.symm, c'.symm⟩
    · exact Or.inl c
  · intro x hx
    have := h3 x hx p List.mem_cons_self
    simp only [Bool.not_eq_true', Bool.and_eq_false_iff, beq_eq_false_iff_ne]
    by_cases c : x.s = p.s
    · exact Or.inr fun c' => this ⟨c, c'⟩
    · exact Or.inl c
theorem mem_strike {W : List Pk} {p r : Pk} : r ∈ strike W p ↔ r ∈ W ∧ ¬ (r.s = p.s ∧ r.q = p.q) := by
  unfold strike
  rw [List.mem_filter]
  refine and_congr_right fun _ => ?_
  by_cases h : r.s = p.s <;> simp [h]
theorem Apart.strike {W : List Pk} (h : Apart W) (p : Pk) : Apart (strike W p) := List.Pairwise.filter _ h
theorem Apart.snoc {W : List Pk} (h : Apart W) {p : Pk} (hp : has W p = false) : Apart (W ++ [p]) := by
  unfold Apart at *
  rw [List.pairwise_append]
  refine ⟨h, List.pairwise_singleton _ _, fun a ha b hb => ?_⟩
  rw [List.mem_singleton.1 hb]
  exact has_not.1 hp a ha
theorem len_strike {W : List Pk} (hW : Apart W) {p : Pk} (hp : p ∈ W) : (strike W p).length + 1 = W.length := by
  obtain ⟨A, B, e⟩ := List.append_of_mem hp
  rw [strike_cut hW e, e]
  simp
  omega
theorem IOk.new {n : Nat} (h1 : 1 ≤ n) (h2 : n ≤ 64) : IOk (newI n) := ⟨h1, h2, Nat.zero_le _, fun _ h => (by cases h), List.Pairwise.nil, fun _ => ⟨Int.le_refl 0, show (0 : Int) < 65536 by decide⟩⟩
theorem IOk.come {S : IS} (h : IOk S) (p : Pk) : IOk (comeS S p) := by
  unfold comeS
  by_cases hr : inR p
  · rw [if_pos hr]
    cases hh : has S.W p
    · refine ⟨h.n1, h.n64, h.len, fun r hrm => ?_, h.ap.snoc hh, h.nx0⟩
      rcases List.mem_append.1 hrm with hrm | hrm
      · exact h.rng r hrm
      · rw [List.mem_singleton.1 hrm]; exact hr
    · exact h
  · rw [if_neg hr]; exact h
theorem IOk.told {S : IS} (h : IOk S) {p : Pk} (hl : S.L.length < S.n) : IOk (told S p) := by
  refine ⟨h.n1, h.n64, ?_, fun r hr => h.rng r (mem_strike.1 hr).1, h.ap.strike p, fun s => ?_⟩
  · simp [Proofs.Ytpmkpjnhdehnhaa.told]; omega
  · show 0 ≤ upd S.nx p.s ((p.q + 1) % 65536) s ∧ upd S.nx p.s ((p.q + 1) % 65536) s < 65536
    unfold upd
    split
    · omega
    · exact h.nx0 s
theorem IOk.tell {S : IS} (h : IOk S) : IOk (tellS S) := by
  unfold tellS
  by_cases hl : S.L.length < S.n
  · rw [if_pos hl]
    cases rdy S with
    | none => exact h
    | some p => exact h.told hl
  · rw [if_neg hl]; exact h
theorem IOk.recv {S : IS} (h : IOk S) : IOk (recvS S) := ⟨h.n1, h.n64, by have := h.len; simp [recvS]; omega, h.rng, h.ap, h.nx0⟩

theorem tell_cases (S : IS) : (S.L.length < S.n ∧ ((rdy S = none ∧ tellS S = S ∧ tellB S = false) ∨ ∃ p, rdy S = some p ∧ tellS S = told S p ∧ tellB S = true)) ∨ (¬ S.L.length < S.n ∧ tellS S = S ∧ tellB S = false) := by
  unfold tellS tellB
  by_cases h : S.L.length < S.n
  · rw [if_pos h]
    refine Or.inl ⟨h, ?_⟩
    cases rdy S with
    | none => exact Or.inl ⟨rfl, rfl, by simp⟩
    | some p => exact Or.inr ⟨p, rfl, rfl, by simpa using h⟩
  · rw [if_neg h]
    exact Or.inr ⟨h, rfl, by simp [h]⟩
/-- Next numbers as a list of pairs. -/
def nxL : List (Int × Int) → Int → Int
  | [], _ => 0
  | x :: l, s => if x.1 = s then x.2 else nxL l s
theorem nxL_out : ∀ {l : List (Int × Int)} {s : Int}, (∀ x ∈ l, x.1 ≠ s) → nxL l s = 0
  | [], _, _ => rfl
  | x :: l, s, h => by
    unfold nxL
    rw [if_neg (h x List.mem_cons_self)]
    exact nxL_out fun y hy => h y (List.mem_cons_of_mem _ hy)
theorem nxL_in : ∀ {l : List (Int × Int)} {x : Int × Int}, l.Pairwise (fun x y => x.1 ≠ y.1) → x ∈ l → nxL l x.1 = x.2
  | [], _, _, h => by cases h
  | y :: l, x, hp, h => by
    obtain ⟨h1, h2⟩ := List.pairwise_cons.1 hp
    unfold nxL
    rcases List.mem_cons.1 h with rfl | h
    · rw [if_pos rfl]
    · rw [if_neg (h1 x h)]
      exact nxL_in h2 h
theorem nxL_put {A B : List (Int × Int)} {s q q' : Int} (hp : (A ++ (s, q) :: B).Pairwise (fun x y => x.1 ≠ y.1)) (x : Int) : nxL (A ++ (s, q') :: B) x = if x = s then q' else nxL (A ++ (s, q) :: B) x := by
  induction A with
  | nil =>
    simp only [List.nil_append, nxL]
    by_cases h : x = s
    · subst h; simp
    · rw [if_neg h, if_neg fun c => h c.symm, if_neg fun c => h c.symm]
  | cons y A ih =>
    rw [List.cons_append, List.pairwise_cons] at hp
    simp only [List.cons_append, nxL]
    by_cases hy : y.1 = x
    · rw [if_pos hy, if_pos hy, if_neg]
      intro c
      exact hp.1 (s, q) (by simp) (hy.trans c)
    · rw [if_neg hy, if_neg hy]
      exact ih hp.2
theorem nxL_snoc {l : List (Int × Int)} {s q : Int} (hn : ∀ x ∈ l, x.1 ≠ s) (x : Int) : nxL (l ++ [(s, q)]) x = if x = s then q else nxL l x := by
  induction l with
  | nil =>
    simp only [List.nil_append, nxL]
    by_cases h : x = s
    · subst h; simp
    · rw [if_neg h, if_neg fun c => h c.symm]
  | cons y l ih =>
    simp only [List.cons_append, nxL]
    by_cases hy : y.1 = x
    · rw [if_pos hy, if_pos hy, if_neg]
      intro c
      exact hn y (by simp) (hy.trans c)
    · rw [if_neg hy, if_neg hy]
      exact ih fun z hz => hn z (List.mem_cons_of_mem _ hz)
end Go.Proofs.Ytpmkpjnhdehnhaa
