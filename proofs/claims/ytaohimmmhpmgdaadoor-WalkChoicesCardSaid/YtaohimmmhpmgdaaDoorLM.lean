/-
  What the laws of layer 9 ask of their worlds and of a way: no function in it.
-/
import Derived.Test.YtaohimmmhpmgdaaDoorWLives
import Derived.Test.YtaohimmmhpmgdaaDoorRank
import Derived.Deep.RegionHeld3
import Derived.Deep.CutRange
namespace Go.Proofs.YtaohimmmhpmgdaaDoor
open Go.RowKit

/-- The config's nine cells and the array's two, in each of the worlds of a class. -/
theorem Wk.gw {w u : World} {c : Cf} {A : Array Value} {t : TypeId} (h : Wk w c A t u) : (∀ p : Gw u, p.v.cell? ⟨w.heap.size, 0, none⟩ = some (.int .i64 c.w)) ∧ (∀ p : Gw u, p.v.cell? ⟨w.heap.size, 1, none⟩ = some (.int .i64 c.h)) ∧ (∀ p : Gw u, p.v.cell? ⟨w.heap.size, 2, none⟩ = some (.int .i64 c.l)) ∧
    (∀ p : Gw u, p.v.cell? ⟨w.heap.size, 3, none⟩ = some (.int .i64 c.d)) ∧ (∀ p : Gw u, p.v.cell? ⟨w.heap.size, 4, none⟩ = some (.int .i64 c.r)) ∧ (∀ p : Gw u, p.v.cell? ⟨w.heap.size, 5, none⟩ = some (.int .i64 c.i)) ∧
    (∀ p : Gw u, p.v.cell? ⟨w.heap.size, 6, none⟩ = some (.int .i64 c.b)) ∧ (∀ p : Gw u, p.v.cell? ⟨w.heap.size, 7, none⟩ = some (.bool c.we)) ∧ (∀ p : Gw u, p.v.cell? ⟨w.heap.size, 8, none⟩ = some (.bool c.ca)) := by
  obtain ⟨x0, x1, x2, x3, x4, x5, x6, x7, x8⟩ := h.cells
  have hl : w.heap.size < u.heap.size := by have := h.lt; omega
  exact ⟨fun p => p.cell hl x0, fun p => p.cell hl x1, fun p => p.cell hl x2, fun p => p.cell hl x3, fun p => p.cell hl x4, fun p => p.cell hl x5, fun p => p.cell hl x6, fun p => p.cell hl x7, fun p => p.cell hl x8⟩
theorem Wk.tops {w u : World} {c : Cf} {a0 a1 : Int} {t : TypeId} (h : Wk w c #[.int .i64 a0, .int .i64 a1] t u) : u.cell? ⟨w.heap.size + 1, 0, none⟩ = some (.int .i64 a0) ∧ u.cell? ⟨w.heap.size + 1, 1, none⟩ = some (.int .i64 a1) := ⟨h.arr 0, h.arr 1⟩
theorem Wk.gwA {w u : World} {c : Cf} {a0 a1 : Int} {t : TypeId} (h : Wk w c #[.int .i64 a0, .int .i64 a1] t u) : (∀ p : Gw u, p.v.cell? ⟨w.heap.size + 1, 0, none⟩ = some (.int .i64 a0)) ∧ (∀ p : Gw u, p.v.cell? ⟨w.heap.size + 1, 1, none⟩ = some (.int .i64 a1)) :=
  ⟨fun p => p.cell h.lt h.tops.1, fun p => p.cell h.lt h.tops.2⟩

/-- A way that is answered, as a slice. -/
def Wy (w : World) (N : Nat → Int) (m : Nat) (e : Ending) (w' : World) : Prop := ∃ a cp, e = .returned (.slice a m cp) ∧ m ≤ cp ∧ Rd w' a (vi (wyK N m)) ∧ Below w.heap.size w w'
theorem Row.wy {w w' : World} {N : Nat → Int} {m : Nat} {e : Ending} (h : Row w (wyK N m) e w') : Wy w N m e w' := by
  obtain ⟨a, cp, rfl, h1, h2, _, h3⟩ := h.rd
  rw [wyK_len] at h1 ⊢
  exact ⟨a, cp, rfl, h1, h2, h3⟩
/-- A way whose ranks rise. -/
theorem far_inv {c : Cf} {a b : Int} (ha : isN c a = true) (hb : isN c b = true) (cs : List Int) : ∃ (far : Nat) (N P : Nat → Int), way c a b cs = wyK N (far + 1) ∧ far ≤ 126 ∧ fr c a b = far ∧ N 0 = a ∧ N far = b ∧
    (∀ k, k < far → bsN c (N k) (P k) = N (k + 1) ∧ bsB c (N k) (P k) = true) ∧ (∀ k, k < far → P k ≠ 0) ∧ (∀ k, k + 1 < far → rk c (N k) (P k) < rk c (N (k + 1)) (P (k + 1))) := by
  refine ⟨(fr c a b).toNat, nd c b cs a, pt c b cs a, way_yes ha hb cs, by have := fr_in c a b; omega, by have := fr_nonneg ha hb; omega, rfl, nd_end ha hb cs, fun k hk => ?_, fun k hk => ?_, fun k hk => way_rises ha hb cs k hk⟩
  · obtain ⟨_, _, _, h⟩ := nd_inv ha hb cs k (by omega)
    obtain ⟨_, _, _, h4, h5⟩ := h hk
    exact ⟨h5, h4⟩
  · obtain ⟨_, _, _, h⟩ := nd_inv ha hb cs k (by omega)
    exact (h hk).2.2.1
end Go.Proofs.YtaohimmmhpmgdaaDoor
