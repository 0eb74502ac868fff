/-
  An inbox of one source whose packets came in their row: how many were told, how many received. Plain.
-/
import Derived.Test.YtpmkpjnhdehnhaaIPlain
namespace Go.Proofs.Ytpmkpjnhdehnhaa

/-- The j-th packet of source s. -/
abbrev pkj (s j : Nat) : Pk := ⟨(s : Int), 0, (j : Int), ⟨#[]⟩⟩
def pks (s a b : Nat) : List Pk := (List.range' a (b - a)).map (pkj s)
theorem pks_len (s a b : Nat) : (pks s a b).length = b - a := by simp [pks]
theorem pks_nil {s a b : Nat} (h : b ≤ a) : pks s a b = [] := by unfold pks; rw [Nat.sub_eq_zero_of_le h]; rfl
theorem pks_cons {s a b : Nat} (h : a < b) : pks s a b = pkj s a :: pks s (a + 1) b := by
  unfold pks
  obtain ⟨k, rfl⟩ : ∃ k, b = a + (k + 1) := ⟨b - a - 1, by omega⟩
  rw [show a + (k + 1) - a = k + 1 by omega, show a + (k + 1) - (a + 1) = k by omega, List.range'_succ]
  rfl
theorem pks_snoc {s a b : Nat} (h : a ≤ b) : pks s a (b + 1) = pks s a b ++ [pkj s b] := by
  unfold pks
  obtain ⟨k, rfl⟩ : ∃ k, b = a + k := ⟨b - a, by omega⟩
  rw [show a + k + 1 - a = k + 1 by omega, show a + k - a = k by omega, List.range'_concat]
  simp
theorem mem_pks {s a b : Nat} {p : Pk} : p ∈ pks s a b ↔ ∃ j, a ≤ j ∧ j < b ∧ p = pkj s j := by
  unfold pks
  simp only [List.mem_map, List.mem_range'_1]
  constructor
  · rintro ⟨j, ⟨h1, h2⟩, rfl⟩
    exact ⟨j, h1, by omega, rfl⟩
  · rintro ⟨j, h1, h2, rfl⟩
    exact ⟨j, ⟨h1, by omega⟩, rfl⟩
theorem pks_apart (s a b : Nat) : Apart (pks s a b) := by
  unfold Apart pks
  rw [List.pairwise_map]
  refine (List.pairwise_lt_range' (s := a) (n := b - a)).imp fun h c => ?_
  have := c.2
  simp only at this
  omega
/-- Of N packets of source s: those to a were received, those to b told. -/
def fl (r s N a b : Nat) : IS := ⟨r, pks s a b, pks s b N, fun x => if x = (s : Int) then (b : Int) else 0⟩
def prS (r s i : Nat) : IS := ⟨r, [], pks s 0 i, fun _ => 0⟩
theorem prS_zero (r s : Nat) : prS r s 0 = newI r := rfl
theorem prS_fl (r s N : Nat) : prS r s N = fl r s N 0 0 := by
  unfold prS fl
  rw [pks_nil (Nat.le_refl 0)]
  congr
  funext x
  split <;> rfl
theorem prS_come {r s i : Nat} (hs : s < 4096) (hi : i < 65536) : comeE (prS r s i) (pkj s i) = 0 ∧ comeS (prS r s i) (pkj s i) = prS r s (i + 1) := by
  have hr : inR (pkj s i) := ⟨by simp, by simp; omega, by simp, by simp; omega⟩
  have hh : has (pks s 0 i) (pkj s i) = false := has_not.2 fun p hp c => by
    obtain ⟨j, _, h2, rfl⟩ := mem_pks.1 hp
    have := c.2
    simp only at this
    omega
  unfold comeE comeS
  rw [if_pos hr, if_pos hr]
  show (if has (pks s 0 i) (pkj s i) = true then (13 : Int) else 0) = 0 ∧ _
  rw [hh]
  refine ⟨rfl, ?_⟩
  show (if has (pks s 0 i) (pkj s i) = true then prS r s i else { prS r s i with W := pks s 0 i ++ [pkj s i] }) = _
  rw [hh]
  unfold prS
  rw [pks_snoc (Nat.zero_le i)]
  rfl
theorem fl_rdy {r s N a b : Nat} : rdy (fl r s N a b) = if b < N then some (pkj s b) else none := by
  unfold rdy
  split
  · rename_i h
    refine pick_uniq (pks_apart s b N) (mem_pks.2 ⟨b, Nat.le_refl _, h, rfl⟩) ?_ fun p hp _ => ?_
    · show (b : Int) = if (s : Int) = (s : Int) then (b : Int) else 0
      rw [if_pos rfl]
    · obtain ⟨j, _, _, rfl⟩ := mem_pks.1 hp
      exact Int.le_refl _
  · rename_i h
    show pick _ (pks s b N) = none
    rw [pks_nil (by omega)]
    rfl
theorem fl_told {r s N a b : Nat} (ha : a ≤ b) (hb : b < N) (hN : b + 1 < 65536) : told (fl r s N a b) (pkj s b) = fl r s N a (b + 1) := by
  unfold told fl
  congr 1
  · show pks s a b ++ [pkj s b] = _
    rw [pks_snoc ha]
  · show strike (pks s b N) (pkj s b) = _
    rw [strike_cut (A := []) (B := pks s (b + 1) N) (pks_apart s b N) (pks_cons hb)]
    rfl
  · funext x
    unfold upd
    show (if x = (s : Int) then ((b : Int) + 1) % 65536 else if x = (s : Int) then (b : Int) else 0) = if x = (s : Int) then ((b + 1 : Nat) : Int) else 0
    by_cases h : x = (s : Int)
    · rw [if_pos h, if_pos h]
      omega
    · rw [if_neg h, if_neg h, if_neg h]
theorem fl_tell {r s N a b : Nat} (ha : a ≤ b) (hN : N < 65536) :
    (b < N ∧ b - a < r → tellB (fl r s N a b) = true ∧ tellS (fl r s N a b) = fl r s N a (b + 1)) ∧ (¬ (b < N ∧ b - a < r) → tellB (fl r s N a b) = false ∧ tellS (fl r s N a b) = fl r s N a b) := by
  have e : (fl r s N a b).L.length = b - a := pks_len s a b
  have e2 : (fl r s N a b).n = r := rfl
  unfold tellB tellS
  rw [fl_rdy, e, e2]
  constructor
  · rintro ⟨h1, h2⟩
    rw [if_pos h1, if_pos h2]
    exact ⟨by simp [h2], fl_told ha h1 (by omega)⟩
  · intro h
    by_cases h2 : b - a < r
    · have h1 : ¬ b < N := fun c => h ⟨c, h2⟩
      rw [if_neg h1, if_pos h2]
      exact ⟨by simp, rfl⟩
    · rw [if_neg h2]
      exact ⟨by simp [h2], rfl⟩
theorem fl_recv {r s N a b : Nat} (h : a < b) : recvV (fl r s N a b) = pkj s a ∧ recvE (fl r s N a b) = 0 ∧ recvS (fl r s N a b) = fl r s N (a + 1) b := by
  have e : (fl r s N a b).L = pkj s a :: pks s (a + 1) b := pks_cons h
  unfold recvV recvE recvS
  rw [e]
  exact ⟨rfl, if_neg (by simp), rfl⟩
theorem fl_empty {r s N a : Nat} : recvE (fl r s N a a) = 8 := by
  have e : (fl r s N a a).L = [] := pks_nil (Nat.le_refl a)
  unfold recvE
  rw [e]
  exact if_pos rfl
theorem fl_done {r s N a : Nat} : recvV (fl r s N a a) = zpk ∧ recvS (fl r s N a a) = fl r s N a a := by
  have e : (fl r s N a a).L = [] := pks_nil (Nat.le_refl a)
  unfold recvV recvS
  rw [e]
  refine ⟨rfl, ?_⟩
  unfold fl
  rw [pks_nil (Nat.le_refl a)]
  rfl
end Go.Proofs.Ytpmkpjnhdehnhaa
