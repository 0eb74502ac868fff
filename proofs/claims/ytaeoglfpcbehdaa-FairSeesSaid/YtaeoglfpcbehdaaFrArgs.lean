/-
  What truths and rows of truths among a law's arguments read as.
-/
import Derived.Test.YtaeoglfpcbehdaaFew
import Derived.Test.YtaeoglfpcbehdaaRows
import Derived.ProofKit
import Derived.OpenShut
import Derived.Lib.SmallJoins
import Derived.Deep.Slices
import Derived.Deep.SlicePairs
import Derived.ChangeOld
namespace Go.Proofs.Ytaeoglfpcbehdaa
open Go.ChangeShapes Go.WideShapes Go.ChangeAt Go.RowKit Go.Joins Go.Deep

theorem Try.own : ownKnob Try.prog.godebug = none := by kernel_rfl
theorem Try.laidOut : laidOutB Try.prog = true := by kernel_rfl

section
variable {H : Type} {enc : TypeId × Value → H} {w : World} {base : Nat} {spare : Nat → Bool} {held : Bool}

theorem lt_of_cell {a : Addr} {v : Value} (h : w.cell? a = some v) : a.block < w.heap.size := by
  rcases Nat.lt_or_ge a.block w.heap.size with c | c
  · exact c
  · simp [World.cell?, Array.getElem?_eq_none c] at h
theorem truths_of_trod {n : Nat} {v : Value} {y : DataW H × List MemPlace} (h : DataW.trod enc Try.prog w base spare held n 34 [v] = some y) :
    ∃ (a : Option Addr) (l : List Bool) (cap : Nat), v = .slice a l.length cap ∧ l.length ≤ cap ∧ cap ≤ maxLen ∧ Rd w a (vb l) := by
  have hC : Try.prog.cellsOf 4 = 1 := by kernel_rfl
  rcases open_slice Try.underlying34 h with ⟨hcs, _⟩ | ⟨ad, len, cap, m, n', D, Pl, hcs, _, hl, hm, hmm, _, hi⟩
  · simp at hcs
    exact ⟨none, [], 0, by rw [hcs]; rfl, Nat.le_refl _, by simp [maxLen], fun j v hj => by simp [vb] at hj⟩
  · simp at hcs
    have hlm : len ≤ m := by rw [hmm]; split <;> omega
    have key : ∀ i, i < len → ∃ q : Bool, w.cell? (ad.add i) = some (.bool q) := by
      intro i hil
      obtain ⟨cs', h1, h2⟩ := hi i (by omega)
      rw [hC] at h1
      obtain ⟨_, hlen, hcell⟩ := World.cells?_some h1
      match cs', hlen with
      | [v0], _ =>
        have e0 := hcell 0 (by omega)
        rw [add_add] at e0
        simp only [List.getElem?_cons_zero, Nat.mul_one, Nat.add_zero] at e0
        obtain ⟨b, eb, _⟩ := DataW.trod_bool Try.underlying4 h2
        simp at eb
        exact ⟨b, by rw [e0, eb]⟩
    obtain ⟨X, hX⟩ := choose_lt key
    obtain ⟨g, off, spot⟩ := ad
    refine ⟨some ⟨g, off, spot⟩, (List.range len).map X, cap, by rw [hcs]; simp, by simpa using hl, hm, fun j p hj => ?_⟩
    have hjl := (List.getElem?_eq_some_iff.mp hj).1
    rw [vb_len, List.length_map, List.length_range] at hjl
    have x0 := hX j hjl
    have hsp : spot = none := by simpa [Addr.add] using World.cell?_spot (hX 0 (by omega))
    subst hsp
    rw [WideShapes.add_plain] at x0
    refine ⟨g, off, rfl, lt_of_cell (a := ⟨g, _, none⟩) x0, ?_⟩
    rw [x0]
    unfold vb at hj
    rw [List.getElem?_map, List.getElem?_map, List.getElem?_range hjl] at hj
    exact hj
theorem rows_of_trod {n : Nat} {v : Value} {y : DataW H × List MemPlace} (h : DataW.trod enc Try.prog w base spare held n 22 [v] = some y) :
    ∃ (a : Option Addr) (l : List BR) (cap : Nat), v = .slice a l.length cap ∧ l.length ≤ cap ∧ cap ≤ maxLen ∧ Rd w a (brs l) ∧ ∀ r ∈ l, BRok w r := by
  have hC : Try.prog.cellsOf 34 = 1 := by kernel_rfl
  rcases open_slice Try.underlying22 h with ⟨hcs, _⟩ | ⟨ad, len, cap, m, n', D, Pl, hcs, _, hl, hm, hmm, _, hi⟩
  · simp at hcs
    exact ⟨none, [], 0, by rw [hcs]; rfl, Nat.le_refl _, by simp [maxLen], fun j v hj => by simp [brs] at hj, fun r hr => by cases hr⟩
  · simp at hcs
    have hlm : len ≤ m := by rw [hmm]; split <;> omega
    have key : ∀ i, i < len → ∃ q : BR, w.cell? (ad.add i) = some (brv q) ∧ BRok w q := by
      intro i hil
      obtain ⟨cs', h1, h2⟩ := hi i (by omega)
      rw [hC] at h1
      obtain ⟨_, hlen, hcell⟩ := World.cells?_some h1
      match cs', hlen with
      | [v0], _ =>
        have e0 := hcell 0 (by omega)
        rw [add_add] at e0
        simp only [List.getElem?_cons_zero, Nat.mul_one, Nat.add_zero] at e0
        obtain ⟨a, l, c, rfl, q1, q2, q3⟩ := truths_of_trod h2
        exact ⟨⟨a, l, c⟩, e0, q3, q1, q2⟩
    haveI : Inhabited BR := ⟨⟨none, [], 0⟩⟩
    obtain ⟨X, hX⟩ := choose_lt key
    obtain ⟨g, off, spot⟩ := ad
    refine ⟨some ⟨g, off, spot⟩, (List.range len).map X, cap, by rw [hcs]; simp, by simpa using hl, hm, fun j p hj => ?_, fun r hr => ?_⟩
    · have hjl := (List.getElem?_eq_some_iff.mp hj).1
      rw [brs_len, List.length_map, List.length_range] at hjl
      have x0 := (hX j hjl).1
      have hsp : spot = none := by simpa [Addr.add] using World.cell?_spot (hX 0 (by omega)).1
      subst hsp
      rw [WideShapes.add_plain] at x0
      refine ⟨g, off, rfl, lt_of_cell (a := ⟨g, _, none⟩) x0, ?_⟩
      rw [x0]
      unfold brs at hj
      rw [List.getElem?_map, List.getElem?_map, List.getElem?_range hjl] at hj
      exact hj
    · obtain ⟨i, hi', rfl⟩ := List.mem_map.1 hr
      exact (hX i (List.mem_range.1 hi')).2
end
end Go.Proofs.Ytaeoglfpcbehdaa
