/-
  Whose turn it is: plain mathematics.
-/
namespace Go.Proofs.Ytaeoglfpcbehdaa

/-- What is told of any number of places. -/
def clampN (n : Int) : Nat := (min (max n 1) 4096).toNat
theorem clamp_pos (n : Int) : 0 < clampN n ∧ clampN n ≤ 4096 ∧ ((clampN n : Nat) : Int) = min (max n 1) 4096 := by
  unfold clampN
  omega
theorem clamp_id {n : Nat} (h1 : 0 < n) (h2 : n ≤ 4096) : clampN (n : Int) = n := by
  unfold clampN
  omega
/-- The first of the places that want, from l on, round. -/
def sel (N l : Nat) (W : Nat → Bool) : Option Nat := (List.range N).find? fun i => W ((l + i) % N)
def ask (N l : Nat) (W : Nat → Bool) : Nat × Bool :=
  match sel N l W with
  | some i => ((l + i) % N, true)
  | none => (0, false)
/-- Where the next one is looked for behind it. -/
def nxtl (N l : Nat) (W : Nat → Bool) : Nat := if (ask N l W).2 = true then (ask N l W).1 + 1 else l
variable {N l : Nat} {W : Nat → Bool}
theorem ask_hit {i : Nat} (hi : i < N) (hw : W ((l + i) % N) = true) (hn : ∀ j, j < i → W ((l + j) % N) = false) : ask N l W = ((l + i) % N, true) := by
  have : sel N l W = some i := by
    unfold sel
    rw [List.find?_range_eq_some]
    exact ⟨hw, List.mem_range.2 hi, fun j hj => by rw [hn j hj]; rfl⟩
  unfold ask
  rw [this]
theorem ask_none (hn : ∀ j, j < N → W ((l + j) % N) = false) : ask N l W = (0, false) := by
  have : sel N l W = none := by
    unfold sel
    rw [List.find?_range_eq_none]
    exact fun j hj => by rw [hn j hj]; rfl
  unfold ask
  rw [this]
/-- Both cases. -/
theorem ask_cases (N l : Nat) (W : Nat → Bool) : (∃ i, i < N ∧ W ((l + i) % N) = true ∧ (∀ j, j < i → W ((l + j) % N) = false) ∧ ask N l W = ((l + i) % N, true)) ∨ ((∀ j, j < N → W ((l + j) % N) = false) ∧ ask N l W = (0, false)) := by
  cases h : sel N l W with
  | none =>
    right
    have h1 := h
    unfold sel at h1
    rw [List.find?_range_eq_none] at h1
    have h2 : ∀ j, j < N → W ((l + j) % N) = false := fun j hj => by simpa using h1 j hj
    exact ⟨h2, ask_none h2⟩
  | some i =>
    left
    have h1 := h
    unfold sel at h1
    rw [List.find?_range_eq_some] at h1
    have h2 : ∀ j, j < i → W ((l + j) % N) = false := fun j hj => by simpa using h1.2.2 j hj
    exact ⟨i, List.mem_range.1 h1.2.1, h1.1, h2, ask_hit (List.mem_range.1 h1.2.1) h1.1 h2⟩
theorem ask_lt (h : 0 < N) : (ask N l W).1 < N := by
  rcases ask_cases N l W with ⟨i, _, _, _, e⟩ | ⟨_, e⟩
  · rw [e]; exact Nat.mod_lt _ h
  · rw [e]; exact h
theorem nxtl_le (h : 0 < N) (hl : l ≤ N) : nxtl N l W ≤ N := by
  have := ask_lt (l := l) (W := W) h
  unfold nxtl
  split <;> omega
theorem ask_ext {V : Nat → Bool} (h0 : 0 < N) (h : ∀ k, k < N → W k = V k) : ask N l W = ask N l V := by
  have : sel N l W = sel N l V := by
    unfold sel
    congr 1
    funext i
    exact h _ (Nat.mod_lt _ h0)
  unfold ask
  rw [this]
/-- One that wants is told. -/
theorem ask_yes {k : Nat} (_h0 : 0 < N) (hl : l ≤ N) (hk : k < N) (hw : W k = true) : (ask N l W).2 = true ∧ W (ask N l W).1 = true := by
  rcases ask_cases N l W with ⟨i, _, h1, _, e⟩ | ⟨h1, e⟩
  · rw [e]; exact ⟨rfl, h1⟩
  · exfalso
    by_cases hc : l ≤ k
    · have := h1 (k - l) (by omega)
      rw [show l + (k - l) = k by omega, Nat.mod_eq_of_lt hk, hw] at this
      cases this
    · have := h1 (k + N - l) (by omega)
      rw [show l + (k + N - l) = k + N by omega, Nat.add_mod_right, Nat.mod_eq_of_lt hk, hw] at this
      cases this
theorem mod2 {x : Nat} (h : x < 2 * N) : x % N = if x < N then x else x - N := by
  split
  · exact Nat.mod_eq_of_lt ‹_›
  · rw [Nat.mod_eq_sub_mod (by omega), Nat.mod_eq_of_lt (by omega)]
theorem ask_any (h0 : 0 < N) (hl : l ≤ N) : (ask N l W).2 = (List.range N).any W := by
  cases h : (List.range N).any W with
  | true =>
    obtain ⟨k, hk, hw⟩ := List.any_eq_true.1 h
    exact (ask_yes h0 hl (List.mem_range.1 hk) hw).1
  | false =>
    rcases ask_cases N l W with ⟨i, hi, h1, _, e⟩ | ⟨_, e⟩
    · exfalso
      have := List.any_eq_false.1 h _ (List.mem_range.2 (Nat.mod_lt (l + i) h0))
      exact this h1
    · rw [e]
theorem ask_zero (h : (ask N l W).2 = false) : (ask N l W).1 = 0 := by
  rcases ask_cases N l W with ⟨i, hi, h1, _, e⟩ | ⟨_, e⟩
  · rw [e] at h
    cases h
  · rw [e]
theorem any_up {m n : Nat} (hmn : m ≤ n) (hw : ∀ k, m ≤ k → W k = false) : (List.range m).any W = (List.range n).any W := by
  cases h : (List.range n).any W with
  | true =>
    obtain ⟨k, hk, h1⟩ := List.any_eq_true.1 h
    have hkm : k < m := by
      apply Nat.lt_of_not_le
      intro c
      rw [hw k c] at h1
      cases h1
    exact List.any_eq_true.2 ⟨k, List.mem_range.2 hkm, h1⟩
  | false =>
    rw [List.any_eq_false] at h ⊢
    intro k hk
    exact h k (List.mem_range.2 (Nat.lt_of_lt_of_le (List.mem_range.1 hk) hmn))
theorem any_snoc (W : Nat → Bool) (k : Nat) : ((List.range k).any W || W k) = (List.range (k + 1)).any W := by
  rw [List.range_succ, List.any_append]
  simp
/-- How many turns may come ahead of who's. -/
def dst (N l k : Nat) : Nat := if l ≤ k then k - l else k + N - l
theorem dst_lt {k : Nat} (hl : l ≤ N) (hk : k < N) : dst N l k < N := by
  unfold dst
  split <;> omega
theorem dst_step {i k : Nat} (hl : l ≤ N) (hk : k < N) (hi : i < dst N l k) : dst N ((l + i) % N + 1) k < dst N l k := by
  unfold dst at hi ⊢
  have hm := mod2 (N := N) (x := l + i) (by split at hi <;> omega)
  rw [hm]
  by_cases h1 : l ≤ k <;> by_cases h2 : l + i < N <;> simp only [h1, h2, if_true, if_false] at hi ⊢ <;> (split <;> omega)
theorem dst_next {k : Nat} (h0 : 0 < N) (hl : l ≤ N) (hk : k < N) (hw : W k = true) (hn : ¬ (ask N l W).1 = k) : dst N ((ask N l W).1 + 1) k < dst N l k := by
  rcases ask_cases N l W with ⟨i, hi, h1, h2, e⟩ | ⟨h1, e⟩
  · rw [e] at hn ⊢
    have hd : (l + dst N l k) % N = k := by
      have := dst_lt hl hk
      unfold dst at this ⊢
      rw [mod2 (by omega)]
      split <;> split <;> omega
    have hle : ¬ dst N l k < i := fun hc => by
      have := h2 _ hc
      rw [hd, hw] at this
      cases this
    have hne : ¬ i = dst N l k := fun e => hn (by show (l + i) % N = k; rw [e, hd])
    exact dst_step hl hk (by omega)
  · exfalso
    have := (ask_yes h0 hl hk hw).1
    rw [e] at this
    cases this
/-- All want. -/
def lall (N i : Nat) : Nat := if i = 0 then 0 else (i - 1) % N + 1
theorem lall_le (h0 : 0 < N) (i : Nat) : lall N i ≤ N := by
  have := Nat.mod_lt (i - 1) h0
  unfold lall
  split <;> omega
theorem lall_mod (_h0 : 0 < N) (i : Nat) : lall N i % N = i % N := by
  unfold lall
  split
  · subst i; rfl
  · rw [Nat.mod_add_mod]
    congr 1
    omega
theorem ask_all (h0 : 0 < N) (hw : ∀ k, k < N → W k = true) (i : Nat) : ask N (lall N i) W = (i % N, true) := by
  have := ask_hit (N := N) (l := lall N i) (W := W) (i := 0) h0 (hw _ (Nat.mod_lt _ h0)) (fun j hj => absurd hj (Nat.not_lt_zero _))
  rw [this, Nat.add_zero, lall_mod h0]
theorem lall_next (h0 : 0 < N) (hw : ∀ k, k < N → W k = true) (i : Nat) : nxtl N (lall N i) W = lall N (i + 1) := by
  unfold nxtl
  rw [ask_all h0 hw]
  rfl
/-- How often k had a turn of i, if all want. -/
def cnt (N i k : Nat) : Nat := i / N + if k < i % N then 1 else 0
theorem cnt_zero (N k : Nat) : cnt N 0 k = 0 := by simp [cnt]
theorem cnt_next (h0 : 0 < N) (i k : Nat) (hk : k < N) : cnt N (i + 1) k = cnt N i k + if k = i % N then 1 else 0 := by
  have hm := Nat.mod_lt i h0
  have hd := Nat.div_add_mod i N
  unfold cnt
  by_cases h : i % N + 1 = N
  · have e : (i + 1) / N = i / N + 1 ∧ (i + 1) % N = 0 := by
      rw [Nat.div_mod_unique h0]
      refine ⟨?_, h0⟩
      rw [Nat.mul_add, Nat.mul_one]
      omega
    rw [e.1, e.2]
    split <;> split <;> split <;> omega
  · have e : (i + 1) / N = i / N ∧ (i + 1) % N = i % N + 1 := by
      rw [Nat.div_mod_unique h0]
      exact ⟨by omega, by omega⟩
    rw [e.1, e.2]
    split <;> split <;> split <;> omega
theorem cnt_near (N i k : Nat) : i / N ≤ cnt N i k ∧ cnt N i k ≤ i / N + 1 := by
  unfold cnt
  split <;> omega
end Go.Proofs.Ytaeoglfpcbehdaa
