/-
  What a row of parcels among a law's arguments reads as.
-/
import Derived.Test.YtockjijhckkicaaCArgs
import Derived.Test.YtockjijhckkicaaPk
namespace Go.Proofs.Ytockjijhckkicaa
open Go.ChangeShapes Go.WideShapes Go.ChangeAt Go.RowKit Go.Joins Go.Deep

section
variable {H : Type} {enc : TypeId × Value → H} {w : World} {base : Nat} {spare : Nat → Bool} {held : Bool}

theorem parcels_of_trod {n : Nat} {v : Value} {y : DataW H × List MemPlace} (h : DataW.trod enc Try.prog w base spare held n 22 [v] = some y) :
    ∃ (a : Option Addr) (l : List Pc) (cap : Nat), v = .slice a l.length cap ∧ l.length ≤ cap ∧ cap ≤ maxLen ∧ PsRd w a l := by
  have hC : Try.prog.cellsOf 60 = 4 := by kernel_rfl
  rcases open_slice Try.underlying22 h with ⟨hcs, _⟩ | ⟨ad, len, cap, m, n', D, Pl, hcs, _, hl, hm, hmm, _, hi⟩
  · simp at hcs
    exact ⟨none, [], 0, by rw [hcs]; rfl, Nat.le_refl _, by simp [maxLen], fun j v hj => by simp at hj⟩
  · simp at hcs
    have hlm : len ≤ m := by rw [hmm]; split <;> omega
    have key : ∀ i, i < len → ∃ q : Pc, w.cell? (ad.add (i * 4)) = some (.int .i64 q.s) ∧ w.cell? (ad.add (i * 4 + 1)) = some (.bool q.c) ∧ w.cell? (ad.add (i * 4 + 3)) = some (.string q.x) ∧
        ∃ a' cap', w.cell? (ad.add (i * 4 + 2)) = some (.slice a' q.hs.length cap') ∧ q.hs.length ≤ maxLen ∧ q.x.size ≤ maxLen ∧ Rd w a' (pc q.hs) := by
      intro i hil
      obtain ⟨cs', h1, h2⟩ := hi i (by omega)
      rw [hC] at h1
      obtain ⟨_, hlen, hcell⟩ := World.cells?_some h1
      obtain ⟨xs, k, _, _, _, hxl, hf⟩ := DataW.trod_struct Try.underlying60 h2
      have i3 : Try.prog.cellsOf 3 = 1 := by kernel_rfl
      have i4 : Try.prog.cellsOf 4 = 1 := by kernel_rfl
      have i5 : Try.prog.cellsOf 58 = 1 := by kernel_rfl
      have i9 : Try.prog.cellsOf 9 = 1 := by kernel_rfl
      match xs, hxl, cs', hlen with
      | [y0, y1, y2, y3], _, [v0, v1, v2, v3], _ =>
        have g0 := hf 0 _ rfl
        have g1 := hf 1 _ rfl
        have g2 := hf 2 _ rfl
        have g3 := hf 3 _ rfl
        simp [i3, i4, i5, i9] at g0 g1 g2 g3
        have e0 := hcell 0 (by omega)
        have e1 := hcell 1 (by omega)
        have e2 := hcell 2 (by omega)
        have e3 := hcell 3 (by omega)
        rw [add_add] at e0 e1 e2 e3
        simp only [List.getElem?_cons_zero, List.getElem?_cons_succ, Nat.add_zero] at e0 e1 e2 e3
        obtain ⟨a0, f0, _, _⟩ := DataW.trod_int Try.underlying3 g0
        obtain ⟨a1, f1, _⟩ := DataW.trod_bool Try.underlying4 g1
        obtain ⟨a2, l2, cap2, f2, q1, q2, q3⟩ := tos_of_trod g2
        obtain ⟨a3, f3, _, hmx⟩ := DataW.trod_string Try.underlying9 g3
        simp at f0 f1 f3
        subst f0 f1 f2 f3
        exact ⟨⟨a0, a1, l2, a3⟩, e0, e1, e3, a2, cap2, e2, Nat.le_trans q1 q2, hmx, q3⟩
    haveI : Inhabited Pc := ⟨⟨0, false, [], ByteArray.empty⟩⟩
    obtain ⟨X, hX⟩ := choose_lt key
    obtain ⟨g, off, spot⟩ := ad
    refine ⟨some ⟨g, off, spot⟩, (List.range len).map X, cap, by rw [hcs]; simp, by simpa using hl, hm, fun j p hj => ?_⟩
    have hjl := (List.getElem?_eq_some_iff.mp hj).1
    rw [List.length_map, List.length_range] at hjl
    obtain ⟨x0, x1, x3, a', cap', x2, q1, q2, q3⟩ := hX j hjl
    have hsp : spot = none := by
      have := World.cell?_spot (hX 0 (by omega)).1
      simpa [Addr.add] using this
    subst hsp
    obtain rfl : X j = p := by simpa [hjl] using hj
    rw [WideShapes.add_plain] at x0 x1 x2 x3
    exact ⟨g, off, rfl, lt_of_cell (a := ⟨g, _, none⟩) x0, x0, x1, x3, a', cap', x2, q1, q2, q3⟩
/-- A row of words that came in: nil has no room. -/
theorem words_nil_of_trod {n : Nat} {v : Value} {y : DataW H × List MemPlace} (h : DataW.trod enc Try.prog w base spare held n 23 [v] = some y) :
    ∃ (a : Option Addr) (l : List Nat) (cap : Nat), v = .slice a l.length cap ∧ l.length ≤ cap ∧ cap ≤ maxLen ∧ Rd w a (vw l) ∧ (∀ x ∈ l, x < 18446744073709551616) ∧ (a = none → cap = 0) := by
  obtain ⟨a, l, cap, h1, h2, h3, h4, h5⟩ := words_of_trod h
  refine ⟨a, l, cap, h1, h2, h3, h4, h5, fun ha => ?_⟩
  subst ha
  rcases open_ints Try.underlying23 Try.underlying28 (by kernel_rfl) h with ⟨hcs, _⟩ | ⟨x, l', c, zs, hcs, _⟩
  · simp at hcs
    rw [h1] at hcs
    simp only [Value.slice.injEq] at hcs
    exact hcs.2.2
  · simp at hcs
    rw [h1] at hcs
    simp at hcs
end
end Go.Proofs.Ytockjijhckkicaa
