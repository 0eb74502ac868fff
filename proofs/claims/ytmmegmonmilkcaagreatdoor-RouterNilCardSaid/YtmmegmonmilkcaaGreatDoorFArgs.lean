/-
  What a flit among a law's arguments reads as.
-/
import Derived.Test.YtmmegmonmilkcaaGreatDoorArgs
import Derived.Test.YtmmegmonmilkcaaGreatDoorBase
import Derived.ChangeMaps5
namespace Go.Proofs.YtmmegmonmilkcaaGreatDoor
open Go.ChangeShapes Go.WideShapes Go.ChangeAt Go.RowKit Go.Joins Go.Deep

section
variable {H : Type} {enc : TypeId × Value → H} {w : World} {base : Nat} {spare : Nat → Bool} {held : Bool}

set_option maxRecDepth 100000 in
theorem open_flit {r : Reach} {b0 : Nat} {v : Value} {d : DataW H} {p : List MemPlace} (hv : Value.okWide Tryz.prog w r b0 112 v) (h : DataW.Trod enc Tryz.prog w base spare held 112 v d p) :
    ∃ f : Fl, v = flv f ∧ f.x.size ≤ maxLen := by
  have hs := Tryz.underlying112
  have hC : Tryz.prog.cellsOf 112 = 8 := by kernel_rfl
  obtain ⟨cs, rfl, hsz⟩ := okWide_struct hs hv
  obtain ⟨l⟩ := cs
  match l, hsz.trans hC with
  | [c0, c1, c2, c3, c4, c5, c6, c7], _ =>
    obtain ⟨fuel, hf⟩ := h
    obtain ⟨xs, n, _, _, _, hlen, hg⟩ := DataW.trod_struct hs hf
    have i3 : Tryz.prog.cellsOf 3 = 1 := by kernel_rfl
    have i4 : Tryz.prog.cellsOf 4 = 1 := by kernel_rfl
    have i9 : Tryz.prog.cellsOf 9 = 1 := by kernel_rfl
    match xs, hlen with
    | [y0, y1, y2, y3, y4, y5, y6, y7], _ =>
      have g0 := hg 0 _ rfl
      have g1 := hg 1 _ rfl
      have g2 := hg 2 _ rfl
      have g3 := hg 3 _ rfl
      have g4 := hg 4 _ rfl
      have g5 := hg 5 _ rfl
      have g6 := hg 6 _ rfl
      have g7 := hg 7 _ rfl
      simp [Value.cells, i3, i4, i9] at g0 g1 g2 g3 g4 g5 g6 g7
      obtain ⟨a0, e0, _, _⟩ := DataW.trod_int Tryz.underlying3 g0
      obtain ⟨a1, e1, _, _⟩ := DataW.trod_int Tryz.underlying3 g1
      obtain ⟨a2, e2, _, _⟩ := DataW.trod_int Tryz.underlying3 g2
      obtain ⟨a3, e3, _, _⟩ := DataW.trod_int Tryz.underlying3 g3
      obtain ⟨a4, e4, _, _⟩ := DataW.trod_int Tryz.underlying3 g4
      obtain ⟨a5, e5, _⟩ := DataW.trod_bool Tryz.underlying4 g5
      obtain ⟨a6, e6, _⟩ := DataW.trod_bool Tryz.underlying4 g6
      obtain ⟨a7, e7, _, hm⟩ := DataW.trod_string Tryz.underlying9 g7
      simp at e0 e1 e2 e3 e4 e5 e6 e7
      subst e0 e1 e2 e3 e4 e5 e6 e7
      exact ⟨⟨a0, a1, a2, a3, a4, a5, a6, a7⟩, rfl, hm⟩
end
end Go.Proofs.YtmmegmonmilkcaaGreatDoor
