/-
  Packets of several sources, in whatever row they come: what has come and waits, what is to come, what was received. Plain.
-/
import Derived.Test.YtpmkpjnhdehnhaaIPlain
namespace Go.Proofs.Ytpmkpjnhdehnhaa

/-- The n-th packet of source s: its one byte says which. -/
abbrev pkd (s n : Nat) : Pk := ⟨(s : Int), 0, (n : Int), ⟨#[UInt8.ofNat (97 + n)]⟩⟩
section
variable (cnt : Nat → Nat)
/-- All packets of the sources below s, of s the first n. -/
def rwA (s n : Nat) : List Pk := (List.range s).flatMap (fun k => (List.range (cnt k)).map (pkd k)) ++ (List.range n).map (pkd s)
/-- What waits, what is to come (of the sources below m), what each source's next number is, how many were received. -/
structure Rw (m total : Nat) (S : IS) (rem : List Pk) (c : Nat → Nat) (got : Nat) : Prop where
  L : S.L = []
  nx : ∀ s, s < m → S.nx (s : Int) = (c s : Int)
  form : ∀ p ∈ S.W ++ rem, ∃ s n, s < m ∧ n < cnt s ∧ c s ≤ n ∧ p = pkd s n
  cover : ∀ s n, s < m → n < cnt s → c s ≤ n → pkd s n ∈ S.W ++ rem
  ap : Apart (S.W ++ rem)
  sum : got + S.W.length + rem.length = total
end
section
variable {cnt : Nat → Nat} {m total : Nat} {S : IS} {rem : List Pk} {c : Nat → Nat} {got : Nat}
theorem apart_perm {A B : List Pk} (h : A.Perm B) (hA : Apart A) : Apart B := (h.pairwise_iff (fun {_x _y} hxy hc => hxy ⟨hc.1.symm, hc.2.symm⟩)).1 hA
theorem pkd_inj {s n s' n' : Nat} (h1 : (pkd s n).s = (pkd s' n').s) (h2 : (pkd s n).q = (pkd s' n').q) : s = s' ∧ n = n' := ⟨Int.ofNat.inj h1, Int.ofNat.inj h2⟩
theorem mem_rwA {s n : Nat} {p : Pk} : p ∈ rwA cnt s n ↔ ∃ k j, p = pkd k j ∧ (k < s ∧ j < cnt k ∨ k = s ∧ j < n) := by
  unfold rwA
  simp only [List.mem_append, List.mem_flatMap, List.mem_range, List.mem_map]
  constructor
  · rintro (⟨k, hk, j, hj, rfl⟩ | ⟨j, hj, rfl⟩)
    · exact ⟨k, j, rfl, Or.inl ⟨hk, hj⟩⟩
    · exact ⟨s, j, rfl, Or.inr ⟨rfl, hj⟩⟩
  · rintro ⟨k, j, rfl, ⟨hk, hj⟩ | ⟨rfl, hj⟩⟩
    · exact Or.inl ⟨k, hk, j, hj, rfl⟩
    · exact Or.inr ⟨j, hj, rfl⟩
theorem rwA_snoc (s n : Nat) : rwA cnt s (n + 1) = rwA cnt s n ++ [pkd s n] := by
  unfold rwA
  rw [List.range_succ, List.map_append, List.append_assoc]
  rfl
theorem rwA_next (s : Nat) : rwA cnt s (cnt s) = rwA cnt (s + 1) 0 := by
  unfold rwA
  rw [List.range_succ, List.flatMap_append]
  simp
theorem rwA_zero : rwA cnt 0 0 = [] := rfl
theorem rwA_apart : ∀ (s n : Nat), Apart (rwA cnt s n)
  | 0, 0 => List.Pairwise.nil
  | s + 1, 0 => by rw [← rwA_next]; exact rwA_apart s (cnt s)
  | s, n + 1 => by
    rw [rwA_snoc]
    refine (rwA_apart s n).snoc (has_not.2 fun p hp h => ?_)
    obtain ⟨k, j, rfl, hk⟩ := mem_rwA.1 hp
    obtain ⟨rfl, rfl⟩ := pkd_inj h.1 h.2
    omega
termination_by s n => (s, n)
theorem rwA_len (h : ∀ k, cnt k ≤ 5) (s n : Nat) : (rwA cnt s n).length ≤ s * 5 + n := by
  unfold rwA
  rw [List.length_append, List.length_map, List.length_range, List.length_flatMap]
  have : ∀ s, (List.map (fun k => ((List.range (cnt k)).map (pkd k)).length) (List.range s)).sum ≤ s * 5 := fun s => by
    induction s with
    | zero => simp
    | succ s ih =>
      rw [List.range_succ, List.map_append, List.sum_append]
      simp
      simp at ih
      have := h s
      omega
  have := this s
  omega
theorem Rw.start (_hn : 0 ≤ total) (h : (rwA cnt m 0).length = total) (n : Nat) : Rw cnt m total (newI n) (rwA cnt m 0) (fun _ => 0) 0 := by
  refine ⟨rfl, fun _ _ => rfl, fun p hp => ?_, fun s n hs hn _ => ?_, rwA_apart m 0, by show 0 + 0 + _ = _; omega⟩
  · obtain ⟨k, j, rfl, hk⟩ := mem_rwA.1 (show p ∈ rwA cnt m 0 from hp)
    refine ⟨k, j, by omega, ?_, Nat.zero_le _, rfl⟩
    rcases hk with hk | hk
    · exact hk.2
    · omega
  · exact mem_rwA.2 ⟨s, n, rfl, Or.inl ⟨hs, hn⟩⟩
/-- One comes. -/
theorem Rw.come (h : Rw cnt m total S rem c got) (hm : m ≤ 5) (hc : ∀ k, cnt k ≤ 5) {A B : List Pk} {p : Pk} (e : rem = A ++ p :: B) : comeE S p = 0 ∧ Rw cnt m total (comeS S p) (A ++ B) c got := by
  subst e
  have hp : p ∈ S.W ++ (A ++ p :: B) := by simp
  have hr : inR p := by
    obtain ⟨s, n, h1, h2, _, rfl⟩ := h.form p hp
    have := hc s
    exact ⟨by simp, by simp; omega, by simp, by simp; omega⟩
  have hh : has S.W p = false := has_not.2 fun r hrm hk => by
    have := h.ap
    unfold Apart at this
    rw [List.pairwise_append] at this
    exact this.2.2 r hrm p (by simp) hk
  have e1 : comeE S p = 0 := by unfold comeE; rw [if_pos hr, hh]; rfl
  have e2 : comeS S p = { S with W := S.W ++ [p] } := by unfold comeS; rw [if_pos hr, hh]; rfl
  have pm : (S.W ++ (A ++ p :: B)).Perm ((S.W ++ [p]) ++ (A ++ B)) := by
    rw [List.append_assoc]
    exact List.Perm.append_left _ (List.perm_middle.trans (by simp))
  rw [e2]
  refine ⟨e1, h.L, h.nx, fun q hq => h.form q (pm.mem_iff.2 hq), fun s n h1 h2 h3 => pm.mem_iff.1 (h.cover s n h1 h2 h3), apart_perm pm h.ap, ?_⟩
  have := h.sum
  simp at this ⊢
  omega
/-- One is told, and received. -/
theorem Rw.tell (h : Rw cnt m total S rem c got) (_hm : m ≤ 5) (hc : ∀ k, cnt k ≤ 5) (_hn : 1 ≤ S.n) (ht : tellB S = true) :
    ∃ s, s < m ∧ c s < cnt s ∧ recvV (tellS S) = pkd s (c s) ∧ recvE (tellS S) = 0 ∧ (recvS (tellS S)).n = S.n ∧ (recvS (tellS S)).W.length + 1 = S.W.length ∧ Rw cnt m total (recvS (tellS S)) rem (fun k => if k = s then c s + 1 else c k) (got + 1) := by
  rcases tell_cases S with ⟨_, ⟨_, _, hb⟩ | ⟨p, hp, e, _⟩⟩ | ⟨_, _, hb⟩
  · rw [hb] at ht; cases ht
  · obtain ⟨pW, pq, _⟩ := pick_some hp
    obtain ⟨s, n, h1, h2, h3, rfl⟩ := h.form p (List.mem_append_left _ pW)
    have hcn : n = c s := by
      have := h.nx s h1
      have pq' : (n : Int) = S.nx (s : Int) := pq
      omega
    subst hcn
    have hap : Apart S.W := by
      have := h.ap
      unfold Apart at this
      rw [List.pairwise_append] at this
      exact this.1
    have key : ∀ q, q ∈ strike S.W (pkd s (c s)) ++ rem ↔ q ∈ S.W ++ rem ∧ ¬ (q.s = (pkd s (c s)).s ∧ q.q = (pkd s (c s)).q) := fun q => by
      rw [List.mem_append, mem_strike, List.mem_append]
      constructor
      · rintro (⟨a, b⟩ | a)
        · exact ⟨Or.inl a, b⟩
        · refine ⟨Or.inr a, fun hk => ?_⟩
          have := h.ap
          unfold Apart at this
          rw [List.pairwise_append] at this
          exact this.2.2 _ pW q a ⟨hk.1.symm, hk.2.symm⟩
      · rintro ⟨a | a, b⟩
        · exact Or.inl ⟨a, b⟩
        · exact Or.inr a
    have hcs := hc s
    have hl := len_strike hap pW
    rw [e]
    have eL : (told S (pkd s (c s))).L = [pkd s (c s)] := by show S.L ++ [_] = _; rw [h.L]; rfl
    refine ⟨s, h1, h2, ?_, ?_, rfl, hl, ?_, fun k hk => ?_, fun q hq => ?_, fun k j hk hj hcj => ?_, ?_, ?_⟩
    · unfold recvV; rw [eL]; rfl
    · unfold recvE; rw [eL]; exact if_neg (by simp)
    · unfold recvS; rw [eL]; rfl
    · show upd S.nx (s : Int) ((((c s : Nat) : Int) + 1) % 65536) (k : Int) = _
      unfold upd
      by_cases hks : k = s
      · subst hks
        rw [if_pos rfl]
        simp only [if_pos]
        omega
      · rw [if_neg (by omega), h.nx k hk]
        simp only [if_neg hks]
    · obtain ⟨hq1, hq2⟩ := (key q).1 hq
      obtain ⟨k, j, a1, a2, a3, rfl⟩ := h.form q hq1
      refine ⟨k, j, a1, a2, ?_, rfl⟩
      by_cases hks : k = s
      · subst hks
        simp only [if_pos]
        have : j ≠ c k := fun hjc => hq2 ⟨rfl, by rw [hjc]⟩
        omega
      · simp only [if_neg hks]
        exact a3
    · refine (key _).2 ⟨h.cover k j hk hj ?_, fun hkk => ?_⟩
      · by_cases hks : k = s
        · subst hks
          simp only [if_pos] at hcj
          omega
        · simp only [if_neg hks] at hcj
          exact hcj
      · obtain ⟨rfl, rfl⟩ := pkd_inj hkk.1 hkk.2
        simp only [if_pos] at hcj
        omega
    · have := h.ap
      unfold Apart at this ⊢
      rw [List.pairwise_append] at this ⊢
      exact ⟨hap.strike _, this.2.1, fun a ha b hb => this.2.2 a (mem_strike.1 ha).1 b hb⟩
    · have := h.sum
      show got + 1 + (strike S.W (pkd s (c s))).length + rem.length = total
      omega
  · rw [hb] at ht; cases ht
/-- At the end nothing waits. -/
theorem Rw.done (h : Rw cnt m total S [] c got) (hn : 1 ≤ S.n) (ht : tellB S = false) : S.W = [] ∧ got = total := by
  have hr : rdy S = none := by
    rcases tell_cases S with ⟨_, ⟨hr, _, _⟩ | ⟨p, hp, _, hb⟩⟩ | ⟨hl, _, _⟩
    · exact hr
    · rw [hb] at ht; cases ht
    · rw [h.L] at hl
      exact absurd (show 0 < S.n from hn) hl
  have hW : S.W = [] := by
    cases hc : S.W with
    | nil => rfl
    | cons p W =>
      obtain ⟨s, n, h1, h2, h3, rfl⟩ := h.form p (by rw [hc]; simp)
      have hm := h.cover s (c s) h1 (by omega) (Nat.le_refl _)
      rw [List.append_nil] at hm
      exact absurd (h.nx s h1).symm (pick_none hr _ hm)
  refine ⟨hW, ?_⟩
  have := h.sum
  rw [hW] at this
  simpa using this
end
end Go.Proofs.Ytpmkpjnhdehnhaa
