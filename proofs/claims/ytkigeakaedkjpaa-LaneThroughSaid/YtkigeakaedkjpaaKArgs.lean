/-
  What a step among a law's arguments reads as.
-/
import Derived.Test.YtkigeakaedkjpaaCArgs
namespace Go.Proofs.Ytkigeakaedkjpaa
open Go.ChangeShapes Go.WideShapes Go.ChangeAt Go.RowKit Go.Joins Go.Deep

section
variable {H : Type} {enc : TypeId × Value → H} {w : World} {base : Nat} {spare : Nat → Bool} {held : Bool}
set_option maxRecDepth 100000 in
theorem open_opk {r : Reach} {b0 : Nat} {v : Value} {d : DataW H} {p : List MemPlace} (hv : Value.okWide Try.prog w r b0 54 v) (h : DataW.Trod enc Try.prog w base spare held 54 v d p) :
    ∃ (kd n y : Int) (x : Nat), v = .agg #[.int .i64 kd, .int .i64 n, .int .i64 y, .int .u64 (x : Int)] := by
  have hs := Try.underlying54
  have hC : Try.prog.cellsOf 54 = 4 := by kernel_rfl
  obtain ⟨cs, rfl, hsz⟩ := okWide_struct hs hv
  obtain ⟨l⟩ := cs
  match l, hsz.trans hC with
  | [c0, c1, c2, c3], _ =>
    obtain ⟨fuel, hf⟩ := h
    obtain ⟨xs, n, _, _, _, hlen, hg⟩ := DataW.trod_struct hs hf
    have i3 : Try.prog.cellsOf 3 = 1 := by kernel_rfl
    have i8 : Try.prog.cellsOf 36 = 1 := by kernel_rfl
    match xs, hlen with
    | [y0, y1, y2, y3], _ =>
      have g0 := hg 0 _ rfl
      have g1 := hg 1 _ rfl
      have g2 := hg 2 _ rfl
      have g3 := hg 3 _ rfl
      simp [Value.cells, i3, i8] at g0 g1 g2 g3
      obtain ⟨a0, e0, _, _⟩ := DataW.trod_int Try.underlying3 g0
      obtain ⟨a1, e1, _, _⟩ := DataW.trod_int Try.underlying3 g1
      obtain ⟨a2, e2, _, _⟩ := DataW.trod_int Try.underlying3 g2
      obtain ⟨a3, e3, _, q3⟩ := DataW.trod_int Try.underlying36 g3
      simp at e0 e1 e2 e3
      subst e0 e1 e2 e3
      have b3 := wf_u64 q3
      obtain ⟨x, rfl⟩ := Int.eq_ofNat_of_zero_le b3.1
      exact ⟨a0, a1, a2, x, rfl⟩
end
end Go.Proofs.Ytkigeakaedkjpaa
