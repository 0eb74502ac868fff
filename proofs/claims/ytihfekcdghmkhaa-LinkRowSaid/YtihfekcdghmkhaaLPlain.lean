/-
  A link as lists: its steps, what always holds of it (plain mathematics).
-/
import Derived.Test.YtihfekcdghmkhaaLCount
namespace Go.Proofs.Ytihfekcdghmkhaa
open RC (Cl zc)

def inL (S : LS) (k : Int) : Bool := decide (0 ≤ k ∧ k < (S.n : Int))
theorem inL_iff {S : LS} {k : Int} : inL S k = true ↔ 0 ≤ k ∧ k < (S.n : Int) := by unfold inL; exact decide_eq_true_iff
theorem inL_nat {S : LS} {k : Int} (h : inL S k = true) : ∃ q : Nat, k = (q : Int) ∧ q < S.n := by
  rw [inL_iff] at h
  exact ⟨k.toNat, by omega, by omega⟩
theorem inL_mk {S : LS} {q : Nat} (h : q < S.n) : inL S (q : Int) = true := inL_iff.2 ⟨by omega, by omega⟩
def putS (S : LS) (q : Nat) (x : Int) : LS := { S with cr := S.cr.set q (S.cr.getD q 0 + -1), ws := S.ws ++ [⟨(q : Int), x⟩] }
def sendF (S : LS) (k x : Int) : LS × Int :=
  if inL S k = true then
    if S.cr.getD k.toNat 0 = 0 then (S, 8) else if S.r ≤ S.ws.length then (S, 7) else (putS S k.toNat x, 0)
  else (S, 1)
def carryF (S : LS) : LS × Cl × Int :=
  match S.ws with
  | [] => (S, zc, 8)
  | c :: t => ({ S with ws := t, far := S.far.set c.lane.toNat (S.far.getD c.lane.toNat 0 + 1) }, c, 0)
def backS (S : LS) (q : Nat) : LS := { S with far := S.far.set q (S.far.getD q 0 + -1), bk := S.bk ++ [(q : Int)] }
def takenF (S : LS) (k : Int) : LS × Int :=
  if inL S k = true then
    if S.far.getD k.toNat 0 = 0 then (S, 13) else (backS S k.toNat, 0)
  else (S, 1)
def creditF (S : LS) : LS × Int :=
  match S.bk with
  | [] => (S, 8)
  | k :: t => ({ S with cr := S.cr.set k.toNat (S.cr.getD k.toNat 0 + 1), bk := t }, 0)
/-- What always holds of a link. -/
structure Ok (S : LS) : Prop where
  n1 : 1 ≤ S.n
  n8 : S.n ≤ 8
  d1 : 1 ≤ S.d
  d64 : S.d ≤ 64
  r1 : 1 ≤ S.r
  r64 : S.r ≤ 64
  cl : S.cr.length = S.n
  fl : S.far.length = S.n
  wl : S.ws.length ≤ S.r
  wi : ∀ c ∈ S.ws, inL S c.lane = true
  bi : ∀ k ∈ S.bk, inL S k = true
  sum : ∀ q, q < S.n → 0 ≤ S.cr.getD q 0 ∧ 0 ≤ S.far.getD q 0 ∧ S.cr.getD q 0 + (fly S.ws q : Int) + S.far.getD q 0 + (com S.bk q : Int) = S.d
theorem getD_set_if (l : List Int) (q p : Nat) (x : Int) (h : q < l.length) : (l.set q x).getD p 0 = if p = q then x else l.getD p 0 := by
  simp only [List.getD_eq_getElem?_getD, List.getElem?_set]
  by_cases e : q = p
  · subst e
    simp [h]
  · rw [if_neg e, if_neg (fun h => e h.symm)]
theorem fly_nil (k : Int) : fly [] k = 0 := rfl
theorem fly_cons (c : Cl) (l : List Cl) (k : Int) : fly (c :: l) k = (if c.lane = k then 1 else 0) + fly l k := by
  unfold fly
  rw [List.filter_cons]
  by_cases e : c.lane = k
  · simp [e]; omega
  · simp [e]
theorem fly_app (l : List Cl) (c : Cl) (k : Int) : fly (l ++ [c]) k = fly l k + if c.lane = k then 1 else 0 := by
  unfold fly
  rw [List.filter_append, List.length_append]
  by_cases e : c.lane = k
  · simp [e]
  · simp [e]
theorem com_nil (k : Int) : com [] k = 0 := rfl
theorem com_cons (c : Int) (l : List Int) (k : Int) : com (c :: l) k = (if c = k then 1 else 0) + com l k := by
  unfold com
  rw [List.filter_cons]
  by_cases e : c = k
  · simp [e]; omega
  · simp [e]
theorem com_app (l : List Int) (c : Int) (k : Int) : com (l ++ [c]) k = com l k + if c = k then 1 else 0 := by
  unfold com
  rw [List.filter_append, List.length_append]
  by_cases e : c = k
  · simp [e]
  · simp [e]
theorem Ok.put {S : LS} (h : Ok S) {q : Nat} (hq : q < S.n) (hz : ¬ S.cr.getD q 0 = 0) (hf : ¬ S.r ≤ S.ws.length) (x : Int) : Ok (putS S q x) := by
  refine ⟨h.n1, h.n8, h.d1, h.d64, h.r1, h.r64, by simp [putS, h.cl], h.fl, by simp [putS]; omega, fun c hc => ?_, h.bi, fun p hp => ?_⟩
  · simp only [putS, List.mem_append, List.mem_singleton] at hc
    rcases hc with hc | rfl
    · exact h.wi c hc
    · exact inL_mk (S := S) hq
  · have h1 := h.sum p hp
    simp only [putS]
    rw [getD_set_if _ _ _ _ (by rw [h.cl]; exact hq), fly_app]
    by_cases e : p = q
    · subst e
      simp only [if_true]
      omega
    · rw [if_neg e, if_neg (by show ¬ (q : Int) = (p : Int); omega)]
      omega
theorem Ok.carry {S : LS} (h : Ok S) : Ok (carryF S).1 := by
  unfold carryF
  cases e : S.ws with
  | nil => exact h
  | cons c t =>
    have hc := h.wi c (by rw [e]; exact List.mem_cons_self ..)
    obtain ⟨q, hq, hqn⟩ := inL_nat hc
    have hwl := h.wl
    rw [e, List.length_cons] at hwl
    refine ⟨h.n1, h.n8, h.d1, h.d64, h.r1, h.r64, h.cl, by simp [h.fl], by show t.length ≤ S.r; omega, fun x hx => h.wi x (by rw [e]; exact List.mem_cons_of_mem _ hx), h.bi, fun p hp => ?_⟩
    have h1 := h.sum p hp
    rw [e, fly_cons, hq] at h1
    show 0 ≤ S.cr.getD p 0 ∧ 0 ≤ (S.far.set c.lane.toNat _).getD p 0 ∧ S.cr.getD p 0 + (fly t p : Int) + (S.far.set c.lane.toNat _).getD p 0 + (com S.bk p : Int) = S.d
    rw [hq, Int.toNat_natCast, getD_set_if _ _ _ _ (by rw [h.fl]; exact hqn)]
    by_cases e2 : p = q
    · subst e2
      simp only [if_true] at h1 ⊢
      omega
    · rw [if_neg e2]
      rw [if_neg (by show ¬ (q : Int) = (p : Int); omega)] at h1
      omega
theorem Ok.backd {S : LS} (h : Ok S) {q : Nat} (hq : q < S.n) (hz : ¬ S.far.getD q 0 = 0) : Ok (backS S q) := by
  refine ⟨h.n1, h.n8, h.d1, h.d64, h.r1, h.r64, h.cl, by simp [backS, h.fl], h.wl, h.wi, fun c hc => ?_, fun p hp => ?_⟩
  · simp only [backS, List.mem_append, List.mem_singleton] at hc
    rcases hc with hc | rfl
    · exact h.bi c hc
    · exact inL_mk (S := S) hq
  · have h1 := h.sum p hp
    simp only [backS]
    rw [getD_set_if _ _ _ _ (by rw [h.fl]; exact hq), com_app]
    by_cases e : p = q
    · subst e
      simp only [if_true]
      omega
    · rw [if_neg e, if_neg (by show ¬ (q : Int) = (p : Int); omega)]
      omega
theorem Ok.credit {S : LS} (h : Ok S) : Ok (creditF S).1 := by
  unfold creditF
  cases e : S.bk with
  | nil => exact h
  | cons c t =>
    have hc := h.bi c (by rw [e]; exact List.mem_cons_self ..)
    obtain ⟨q, rfl, hqn⟩ := inL_nat hc
    refine ⟨h.n1, h.n8, h.d1, h.d64, h.r1, h.r64, by simp [h.cl], h.fl, h.wl, h.wi, fun x hx => h.bi x (by rw [e]; exact List.mem_cons_of_mem _ hx), fun p hp => ?_⟩
    have h1 := h.sum p hp
    rw [e, com_cons] at h1
    show 0 ≤ (S.cr.set (q : Int).toNat _).getD p 0 ∧ 0 ≤ S.far.getD p 0 ∧ (S.cr.set (q : Int).toNat _).getD p 0 + (fly S.ws p : Int) + S.far.getD p 0 + (com t p : Int) = S.d
    rw [Int.toNat_natCast, getD_set_if _ _ _ _ (by rw [h.cl]; exact hqn)]
    by_cases e2 : p = q
    · subst e2
      simp only [if_true] at h1 ⊢
      omega
    · rw [if_neg e2]
      rw [if_neg (by show ¬ (q : Int) = (p : Int); omega)] at h1
      omega
theorem Ok.send {S : LS} (h : Ok S) (k x : Int) : Ok (sendF S k x).1 := by
  unfold sendF
  split
  · rename_i hk
    obtain ⟨q, rfl, hq⟩ := inL_nat hk
    rw [Int.toNat_natCast]
    split
    · exact h
    · split
      · exact h
      · rename_i h1 h2
        exact h.put hq h1 h2 x
  · exact h
theorem Ok.taken {S : LS} (h : Ok S) (k : Int) : Ok (takenF S k).1 := by
  unfold takenF
  split
  · rename_i hk
    obtain ⟨q, rfl, hq⟩ := inL_nat hk
    rw [Int.toNat_natCast]
    split
    · exact h
    · rename_i h1
      exact h.backd hq h1
  · exact h
/-- A number held to its bounds. -/
def cl1 (n : Int) (m : Nat) : Nat := (min (max n 1) (m : Int)).toNat
theorem cl1_in (n : Int) {m : Nat} (h : 1 ≤ m) : 1 ≤ cl1 n m ∧ cl1 n m ≤ m ∧ ((cl1 n m : Nat) : Int) = min (max n 1) (m : Int) := by unfold cl1; omega
def newS (a b c : Int) : LS := { n := cl1 a 8, d := cl1 b 64, r := cl1 c 64, cr := List.replicate (cl1 a 8) (cl1 b 64 : Int), ws := [], far := List.replicate (cl1 a 8) 0, bk := [] }
theorem getD_rep (n q : Nat) (x : Int) (h : q < n) : (List.replicate n x).getD q 0 = x := by simp [List.getD_eq_getElem?_getD, h]
theorem Ok.new (a b c : Int) : Ok (newS a b c) := by
  obtain ⟨h1, h2, _⟩ := cl1_in a (m := 8) (by decide)
  obtain ⟨h3, h4, _⟩ := cl1_in b (m := 64) (by decide)
  obtain ⟨h5, h6, _⟩ := cl1_in c (m := 64) (by decide)
  refine ⟨h1, h2, h3, h4, h5, h6, by simp [newS], by simp [newS], by simp [newS], fun c hc => (by simp [newS] at hc), fun c hc => (by simp [newS] at hc), fun q hq => ?_⟩
  simp only [newS] at hq ⊢
  rw [getD_rep _ _ _ hq, getD_rep _ _ _ hq]
  simp [fly_nil, com_nil]
/-- A step by its number: 0 Send, 1 Carry, 2 Taken, else Credit. -/
def stepF (S : LS) (kd : Nat) (k x : Int) : LS × Cl × Int :=
  match kd with
  | 0 => ((sendF S k x).1, zc, (sendF S k x).2)
  | 1 => carryF S
  | 2 => ((takenF S k).1, zc, (takenF S k).2)
  | _ => ((creditF S).1, zc, (creditF S).2)
theorem Ok.step {S : LS} (h : Ok S) (kd : Nat) (k x : Int) : Ok (stepF S kd k x).1 := by
  unfold stepF
  split
  · exact h.send k x
  · exact h.carry
  · exact h.taken k
  · exact h.credit
/-- No more credits come back than there are. -/
theorem com_total : ∀ (n : Nat) (l : List Int), (∀ k ∈ l, 0 ≤ k ∧ k < (n : Int)) → ((List.range n).map fun q : Nat => com l (q : Int)).sum = l.length
  | n, [], _ => by
    have : ∀ m : Nat, ((List.range m).map fun q : Nat => com [] (q : Int)).sum = 0 := by
      intro m
      induction m with
      | zero => rfl
      | succ m ih => rw [List.range_succ, List.map_append, List.sum_append, ih]; rfl
    exact this n
  | n, c :: l, h => by
    have hc := h c (List.mem_cons_self ..)
    have ih := com_total n l fun k hk => h k (List.mem_cons_of_mem _ hk)
    have one : ∀ m : Nat, ((List.range m).map fun q : Nat => com (c :: l) (q : Int)).sum = ((List.range m).map fun q : Nat => com l (q : Int)).sum + if c < (m : Int) then 1 else 0 := by
      intro m
      induction m with
      | zero => simp; omega
      | succ m ih2 =>
        rw [List.range_succ, List.map_append, List.sum_append, List.map_append, List.sum_append, ih2]
        simp only [List.map_cons, List.map_nil, List.sum_cons, List.sum_nil, com_cons]
        by_cases e : c = (m : Int)
        · rw [if_pos e, if_neg (by omega), if_pos (by omega)]; omega
        · rw [if_neg e]
          by_cases e2 : c < (m : Int)
          · rw [if_pos e2, if_pos (by omega)]; omega
          · rw [if_neg e2, if_neg (by omega)]; omega
    rw [one, ih, if_pos hc.2, List.length_cons]
theorem sum_le (d : Nat) : ∀ (n : Nat) (f : Nat → Nat), (∀ q, q < n → f q ≤ d) → ((List.range n).map f).sum ≤ n * d
  | 0, _, _ => by simp
  | n + 1, f, h => by
    have ih := sum_le d n f fun q hq => h q (by omega)
    rw [List.range_succ, List.map_append, List.sum_append, Nat.succ_mul]
    have := h n (by omega)
    simp only [List.map_cons, List.map_nil, List.sum_cons, List.sum_nil]
    omega
theorem Ok.bk_le {S : LS} (h : Ok S) : S.bk.length ≤ S.n * S.d := by
  rw [← com_total S.n S.bk fun k hk => inL_iff.1 (h.bi k hk)]
  exact sum_le S.d S.n (fun q : Nat => com S.bk (q : Int)) fun q hq => by have := h.sum q hq; omega
theorem Ok.bk_room {S : LS} (h : Ok S) {q : Nat} (hq : q < S.n) (hz : ¬ S.far.getD q 0 = 0) : S.bk.length < S.n * S.d := by
  have := (h.backd hq hz).bk_le
  simp only [backS, List.length_append, List.length_singleton] at this
  omega
end Go.Proofs.Ytihfekcdghmkhaa
