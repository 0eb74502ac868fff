/-
  Sources that don't hold one another up: packets of four sources, of which one's first is missing. Plain.
-/
import Derived.Test.YtpmkpjnhdehnhaaIPks
namespace Go.Proofs.Ytpmkpjnhdehnhaa

section
variable (g : Nat) (cs : Nat → Nat)
/-- Of source s those that come, of its first n. -/
def rowA (s n : Nat) : List Pk := ((List.range n).filter fun j => !(s == g && j == 0)).map (pkj s)
/-- Those that have come: of the sources below s all, of s those of its first n. -/
def wA (s n : Nat) : List Pk := (List.range s).flatMap (fun k => rowA g k (cs k)) ++ rowA g s n
def sA (s n : Nat) : IS := ⟨64, [], wA g cs s n, fun _ => 0⟩
def keepB (s n : Nat) (p : Pk) : Bool := p.s == (g : Int) || decide ((s : Int) < p.s) || (p.s == (s : Int) && decide ((n : Int) ≤ p.q))
def nxB (s n : Nat) : Int → Int := fun x => if x = (g : Int) then 0 else if x = (s : Int) then (n : Int) else if 0 ≤ x ∧ x < (s : Int) then (cs x.toNat : Int) else 0
/-- Of the sources below s all were received but the missing one's, of s its first n. -/
def sB (s n : Nat) : IS := ⟨64, [], (wA g cs 4 0).filter (keepB g s n), nxB g cs s n⟩
def sT (s n : Nat) : IS := { sB g cs s (n + 1) with L := [pkj s n] }
end
section
variable {g : Nat} {cs : Nat → Nat}
theorem mem_rowA {s n : Nat} {p : Pk} : p ∈ rowA g s n ↔ ∃ j, j < n ∧ ¬ (s = g ∧ j = 0) ∧ p = pkj s j := by
  unfold rowA
  simp only [List.mem_map, List.mem_filter, List.mem_range]
  constructor
  · rintro ⟨j, ⟨h1, h2⟩, rfl⟩
    exact ⟨j, h1, by simp at h2; omega, rfl⟩
  · rintro ⟨j, h1, h2, rfl⟩
    exact ⟨j, ⟨h1, by simp; omega⟩, rfl⟩
theorem mem_wA {s n : Nat} {p : Pk} : p ∈ wA g cs s n ↔ ∃ k j, p = pkj k j ∧ ¬ (k = g ∧ j = 0) ∧ (k < s ∧ j < cs k ∨ k = s ∧ j < n) := by
  unfold wA
  simp only [List.mem_append, List.mem_flatMap, List.mem_range, mem_rowA]
  constructor
  · rintro (⟨k, hk, j, h1, h2, rfl⟩ | ⟨j, h1, h2, rfl⟩)
    · exact ⟨k, j, rfl, h2, Or.inl ⟨hk, h1⟩⟩
    · exact ⟨s, j, rfl, h2, Or.inr ⟨rfl, h1⟩⟩
  · rintro ⟨k, j, rfl, h2, ⟨hk, h1⟩ | ⟨rfl, h1⟩⟩
    · exact Or.inl ⟨k, hk, j, h1, h2, rfl⟩
    · exact Or.inr ⟨j, h1, h2, rfl⟩
theorem pkj_inj {s n s' n' : Nat} (h1 : (pkj s n).s = (pkj s' n').s) (h2 : (pkj s n).q = (pkj s' n').q) : s = s' ∧ n = n' := ⟨Int.ofNat.inj h1, Int.ofNat.inj h2⟩
theorem sA_zero : sA g cs 0 0 = newI 64 := rfl
theorem sA_next (s : Nat) : sA g cs s (cs s) = sA g cs (s + 1) 0 := by
  unfold sA wA
  rw [List.range_succ, List.flatMap_append]
  simp [rowA]
theorem sA_skip : sA g cs g 0 = sA g cs g 1 := by
  unfold sA wA rowA
  simp
theorem sA_come {s n : Nat} (hs : s < 4) (hn : n < 65536) (hg : ¬ (s = g ∧ n = 0)) : comeE (sA g cs s n) (pkj s n) = 0 ∧ comeS (sA g cs s n) (pkj s n) = sA g cs s (n + 1) := by
  have hr : inR (pkj s n) := ⟨by simp, by simp; omega, by simp, by simp; omega⟩
  have hh : has (wA g cs s n) (pkj s n) = false := has_not.2 fun p hp c => by
    obtain ⟨k, j, rfl, _, h⟩ := mem_wA.1 hp
    obtain ⟨rfl, rfl⟩ := pkj_inj c.1 c.2
    omega
  have hw : wA g cs s (n + 1) = wA g cs s n ++ [pkj s n] := by
    unfold wA rowA
    rw [List.range_succ, List.filter_append, List.map_append]
    have : ([n].filter fun j => !(s == g && j == 0)) = [n] := List.filter_eq_self.2 fun j hj => by
      rw [List.mem_singleton.1 hj]
      simp
      omega
    rw [this, List.append_assoc]
    rfl
  unfold comeE comeS
  rw [if_pos hr, if_pos hr]
  refine ⟨?_, ?_⟩
  · show (if has (wA g cs s n) (pkj s n) = true then (13 : Int) else 0) = 0
    rw [hh]
    rfl
  · show (if has (wA g cs s n) (pkj s n) = true then sA g cs s n else { sA g cs s n with W := wA g cs s n ++ [pkj s n] }) = _
    rw [hh, ← hw]
    rfl
theorem keepB_iff {s n k j : Nat} : keepB g s n (pkj k j) = true ↔ k = g ∨ s < k ∨ (k = s ∧ n ≤ j) := by
  unfold keepB
  simp only [Bool.or_eq_true, Bool.and_eq_true, beq_iff_eq, decide_eq_true_eq]
  omega
theorem sB_start : sA g cs 4 0 = sB g cs 0 0 := by
  unfold sA sB
  congr 1
  · refine (List.filter_eq_self.2 fun p hp => ?_).symm
    obtain ⟨k, j, rfl, _, _⟩ := mem_wA.1 hp
    rw [keepB_iff]
    omega
  · funext x
    unfold nxB
    split
    · rfl
    · split
      · rfl
      · split
        · omega
        · rfl
theorem sB_keep {s n s' n' : Nat} (h : ∀ k j, k < 4 → j < cs k → ((k = g ∨ s < k ∨ (k = s ∧ n ≤ j)) ↔ (k = g ∨ s' < k ∨ (k = s' ∧ n' ≤ j)))) : (wA g cs 4 0).filter (keepB g s n) = (wA g cs 4 0).filter (keepB g s' n') := by
  refine List.filter_congr fun p hp => ?_
  obtain ⟨k, j, rfl, _, hk⟩ := mem_wA.1 hp
  rw [Bool.eq_iff_iff, keepB_iff, keepB_iff]
  refine h k j (by omega) ?_
  rcases hk with hk | hk
  · exact hk.2
  · omega
theorem sB_next {s : Nat} (hg : s ≠ g) : sB g cs s (cs s) = sB g cs (s + 1) 0 := by
  unfold sB
  congr 1
  · refine sB_keep fun k j hk hj => ⟨fun h => ?_, fun h => ?_⟩
    · rcases h with h | h | ⟨rfl, h⟩ <;> omega
    · omega
  · funext x
    unfold nxB
    by_cases h1 : x = (g : Int)
    · rw [if_pos h1, if_pos h1]
    · rw [if_neg h1, if_neg h1]
      by_cases h2 : x = (s : Int)
      · rw [if_pos h2, if_neg (by omega), if_pos (by omega), h2]
        simp
      · rw [if_neg h2]
        by_cases h3 : x = ((s + 1 : Nat) : Int)
        · rw [if_pos h3, if_neg (by omega)]
          rfl
        · rw [if_neg h3]
          by_cases h4 : 0 ≤ x ∧ x < (s : Int)
          · rw [if_pos h4, if_pos (by omega)]
          · rw [if_neg h4, if_neg (by omega)]
theorem sB_gap : sB g cs g 0 = sB g cs (g + 1) 0 := by
  unfold sB
  congr 1
  · exact sB_keep fun k j hk hj => by omega
  · funext x
    unfold nxB
    by_cases h1 : x = (g : Int)
    · rw [if_pos h1, if_pos h1]
    · rw [if_neg h1, if_neg h1, if_neg h1]
      by_cases h3 : x = ((g + 1 : Nat) : Int)
      · rw [if_pos h3, if_neg (by omega)]
        rfl
      · rw [if_neg h3]
        by_cases h4 : 0 ≤ x ∧ x < (g : Int)
        · rw [if_pos h4, if_pos (by omega)]
        · rw [if_neg h4, if_neg (by omega)]
theorem mem_sB {s n : Nat} {p : Pk} : p ∈ (sB g cs s n).W ↔ ∃ k j, p = pkj k j ∧ ¬ (k = g ∧ j = 0) ∧ k < 4 ∧ j < cs k ∧ (k = g ∨ s < k ∨ (k = s ∧ n ≤ j)) := by
  show p ∈ (wA g cs 4 0).filter (keepB g s n) ↔ _
  rw [List.mem_filter, mem_wA]
  constructor
  · rintro ⟨⟨k, j, rfl, h1, h2⟩, h3⟩
    rw [keepB_iff] at h3
    refine ⟨k, j, rfl, h1, by omega, ?_, h3⟩
    rcases h2 with h2 | h2
    · exact h2.2
    · omega
  · rintro ⟨k, j, rfl, h1, h2, h3, h4⟩
    exact ⟨⟨k, j, rfl, h1, Or.inl ⟨h2, h3⟩⟩, keepB_iff.2 h4⟩
theorem sB_rdy {s n : Nat} (hA : Apart (sB g cs s n).W) (hs : s < 4) (hn : n < cs s) (hg : s ≠ g) : rdy (sB g cs s n) = some (pkj s n) := by
  refine pick_uniq hA (mem_sB.2 ⟨s, n, rfl, fun h => hg h.1, hs, hn, Or.inr (Or.inr ⟨rfl, Nat.le_refl _⟩)⟩) ?_ fun r hr hq => ?_
  · show (n : Int) = nxB g cs s n (s : Int)
    unfold nxB
    rw [if_neg (by omega), if_pos rfl]
  · obtain ⟨k, j, rfl, h1, h2, h3, h4⟩ := mem_sB.1 hr
    show (s : Int) ≤ (k : Int)
    have hq' : (j : Int) = nxB g cs s n (k : Int) := hq
    rcases h4 with rfl | h4 | h4
    · unfold nxB at hq'
      rw [if_pos rfl] at hq'
      exact absurd ⟨rfl, by omega⟩ h1
    · omega
    · omega
theorem sB_none (hA : g < 4) : rdy (sB g cs 4 0) = none := by
  refine pick_no fun p hp hq => ?_
  obtain ⟨k, j, rfl, h1, h2, h3, h4⟩ := mem_sB.1 hp
  have hq' : (j : Int) = nxB g cs 4 0 (k : Int) := hq
  have : k = g := by omega
  subst this
  unfold nxB at hq'
  rw [if_pos rfl] at hq'
  exact h1 ⟨rfl, by omega⟩
theorem sB_tell {s n : Nat} (hA : Apart (sB g cs s n).W) (hs : s < 4) (hn : n < cs s) (hg : s ≠ g) (hN : n + 1 < 65536) : tellB (sB g cs s n) = true ∧ tellS (sB g cs s n) = sT g cs s n := by
  have hr := sB_rdy hA hs hn hg
  unfold tellB tellS
  rw [hr]
  refine ⟨rfl, ?_⟩
  rw [if_pos (show (sB g cs s n).L.length < (sB g cs s n).n from by show 0 < 64; omega)]
  show told (sB g cs s n) (pkj s n) = sT g cs s n
  unfold told sT sB
  congr 1
  · show ((wA g cs 4 0).filter (keepB g s n)).filter (fun r => !(r.s == (pkj s n).s && r.q == (pkj s n).q)) = _
    rw [List.filter_filter]
    refine List.filter_congr fun p hp => ?_
    obtain ⟨k, j, rfl, _, hk⟩ := mem_wA.1 hp
    rw [Bool.eq_iff_iff, Bool.and_eq_true, keepB_iff, keepB_iff]
    simp only [Bool.not_eq_true', Bool.and_eq_false_iff, beq_eq_false_iff_ne]
    omega
  · funext x
    show upd (nxB g cs s n) (s : Int) (((n : Int) + 1) % 65536) x = nxB g cs s (n + 1) x
    unfold upd nxB
    by_cases h1 : x = (s : Int)
    · rw [if_pos h1, if_neg (by omega), if_pos h1]
      omega
    · rw [if_neg h1]
      by_cases h2 : x = (g : Int)
      · rw [if_pos h2, if_pos h2]
      · rw [if_neg h2, if_neg h2, if_neg h1, if_neg h1]
theorem sT_recv {s n : Nat} : recvV (sT g cs s n) = pkj s n ∧ recvE (sT g cs s n) = 0 ∧ recvS (sT g cs s n) = sB g cs s (n + 1) := ⟨rfl, if_neg (by simp [sT]), rfl⟩
theorem rowA_len (s n : Nat) : (rowA g s n).length = if s = g then n - 1 else n := by
  unfold rowA
  rw [List.length_map]
  split
  · rename_i h
    subst h
    cases n with
    | zero => rfl
    | succ n =>
      rw [List.range_succ_eq_map, List.filter_cons_of_neg (by simp), List.filter_map, List.length_map, List.filter_eq_self.2 (by simp)]
      simp
  · rename_i h
    rw [List.filter_eq_self.2 (by simp [h])]
    simp
theorem filter_rowA (s n : Nat) : (rowA g s n).filter (fun p => p.s == (g : Int)) = if s = g then rowA g s n else [] := by
  split
  · rename_i h
    refine List.filter_eq_self.2 fun p hp => ?_
    obtain ⟨j, _, _, rfl⟩ := mem_rowA.1 hp
    subst h
    simp
  · rename_i h
    refine List.filter_eq_nil_iff.2 fun p hp => ?_
    obtain ⟨j, _, _, rfl⟩ := mem_rowA.1 hp
    simp
    omega
theorem sB_len (hg : g < 4) : (sB g cs 4 0).W.length = cs g - 1 := by
  have e : (sB g cs 4 0).W = (wA g cs 4 0).filter (fun p => p.s == (g : Int)) := by
    refine List.filter_congr fun p hp => ?_
    obtain ⟨k, j, rfl, _, hk⟩ := mem_wA.1 hp
    rw [Bool.eq_iff_iff, keepB_iff, beq_iff_eq]
    show _ ↔ (k : Int) = (g : Int)
    omega
  rw [e]
  unfold wA
  rw [show List.range 4 = [0, 1, 2, 3] from rfl]
  simp only [List.flatMap_cons, List.flatMap_nil, List.append_nil, List.filter_append, filter_rowA, List.length_append]
  have h : g = 0 ∨ g = 1 ∨ g = 2 ∨ g = 3 := by omega
  rcases h with rfl | rfl | rfl | rfl <;> simp [rowA_len]
theorem sB_nx : (sB g cs 4 0).nx (g : Int) = 0 := by
  show nxB g cs 4 0 (g : Int) = 0
  unfold nxB
  rw [if_pos rfl]
end
end Go.Proofs.Ytpmkpjnhdehnhaa
