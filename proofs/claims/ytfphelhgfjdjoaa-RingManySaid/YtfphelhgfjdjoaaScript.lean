/-
  A script that came in: what its steps read as.
-/
import Derived.Test.YtfphelhgfjdjoaaArgs
namespace Go.Proofs.Ytfphelhgfjdjoaa
open Go.ChangeShapes Go.WideShapes Go.ChangeAt Go.RowKit Go.Joins

structure OpS where
  k : Int
  v : Int
  l : List Int

instance : Inhabited OpS := ⟨⟨0, 0, []⟩⟩

def OpCells (w : World) (B g o : Nat) (x : OpS) : Prop :=
  w.cell? ⟨g, o, none⟩ = some (.int .i64 x.k) ∧ w.cell? ⟨g, o + 1, none⟩ = some (.int .i64 x.v) ∧
  ∃ (a : Option Addr) (cap : Nat), w.cell? ⟨g, o + 2, none⟩ = some (.slice a x.l.length cap) ∧ x.l.length ≤ cap ∧ cap ≤ maxLen ∧ Rd w a x.l (fun g => g < B)

/-- The slice of steps that begins at a reads as ops. -/
def OpsRd (w : World) (B : Nat) (a : Option Addr) (ops : List OpS) : Prop :=
  ∀ j, j < ops.length → ∃ g off, a = some ⟨g, off, none⟩ ∧ g < B ∧ ∃ x, ops[j]? = some x ∧ OpCells w B g (off + j * 3) x

theorem OpsRd.below {w w' : World} {B : Nat} {a : Option Addr} {ops : List OpS} (h : OpsRd w B a ops) (hb : Below B w w') : OpsRd w' B a ops := fun j hj => by
  obtain ⟨g, off, h1, h2, x, h3, h4, h5, a', cap, h6, h7, h8, h9⟩ := h j hj
  exact ⟨g, off, h1, h2, x, h3, cells_below hb h2 _ h4, cells_below hb h2 _ h5, a', cap, cells_below hb h2 _ h6, h7, h8, h9.keep hb.size (fun g hg _ => hb.block g hg)⟩

theorem OpsRd.take {w : World} {B : Nat} {a : Option Addr} {ops : List OpS} (h : OpsRd w B a ops) (k : Nat) : OpsRd w B a (ops.take k) := fun j hj => by
  simp at hj
  obtain ⟨g, off, h1, h2, x, h3, h4⟩ := h j (by omega)
  exact ⟨g, off, h1, h2, x, by rw [List.getElem?_take_of_lt (by omega)]; exact h3, h4⟩

section
variable {H : Type} {enc : TypeId × Value → H} {w : World} {base : Nat} {spare : Nat → Bool} {held : Bool}

theorem lt_of_cell {a : Addr} {v : Value} (h : w.cell? a = some v) : a.block < w.heap.size := by
  rcases Nat.lt_or_ge a.block w.heap.size with c | c
  · exact c
  · simp [World.cell?, Array.getElem?_eq_none c] at h

/-- A slice of steps that came in. -/
theorem ops_of_trod {n : Nat} {v : Value} {y : DataW H × List MemPlace} (h : DataW.trod enc Try.prog w base spare held n 23 [v] = some y) :
    ∃ (a : Option Addr) (ops : List OpS) (cap : Nat), v = .slice a ops.length cap ∧ ops.length ≤ cap ∧ cap ≤ maxLen ∧ OpsRd w w.heap.size a ops := by
  rcases Go.Deep.open_slice Try.underlying23 h with ⟨hcs, _⟩ | ⟨ad, len, cap, m, n', D, Pl, hcs, _, hl, hm, hmm, _, hi⟩
  · simp at hcs
    exact ⟨none, [], 0, by rw [hcs]; rfl, Nat.le_refl _, by simp [maxLen], fun j hj => absurd hj (Nat.not_lt_zero j)⟩
  · simp at hcs
    rw [show Try.prog.cellsOf 35 = 3 by kernel_rfl] at hi
    have hlm : len ≤ m := by rw [hmm]; split <;> omega
    obtain ⟨g, off, spot⟩ := ad
    have hsp : 0 < len → spot = none := fun h0 => by
      obtain ⟨cs', hc, _⟩ := hi 0 (by omega)
      obtain ⟨_, hcl, hat⟩ := World.cells?_some hc
      have h1 := hat 0 (by omega)
      rw [List.getElem?_eq_getElem (by omega)] at h1
      have := World.cell?_spot h1
      simpa [Addr.add] using this
    have key : ∀ i, i < len → ∃ x : OpS, OpCells w w.heap.size g (off + i * 3) x := by
      intro i hil
      obtain rfl := hsp (by omega)
      obtain ⟨cs', hc, ht⟩ := hi i (by omega)
      obtain ⟨ys, n2, _, hy, hlen, hyl, hf⟩ := DataW.trod_struct Try.underlying35 ht
      obtain ⟨_, hcl, hat⟩ := World.cells?_some hc
      match cs', hcl with
      | [c0, c1, c2], _ =>
        have f0 := hf 0 _ rfl
        have f1 := hf 1 _ rfl
        have f2 := hf 2 _ rfl
        have e0 : DataW.trod enc Try.prog w base spare held n2 3 [c0] = ys[0]? := f0
        have e1 : DataW.trod enc Try.prog w base spare held n2 3 [c1] = ys[1]? := f1
        have e2 : DataW.trod enc Try.prog w base spare held n2 31 [c2] = ys[2]? := f2
        have l3 : ys.length = 3 := hyl
        rw [List.getElem?_eq_getElem (by omega)] at e0 e1 e2
        obtain ⟨k, q0, _, _⟩ := DataW.trod_int Try.underlying3 e0
        obtain ⟨v, q1, _, _⟩ := DataW.trod_int Try.underlying3 e1
        obtain ⟨a', l, cap', q2, g1, g2, g3⟩ := rd_of_trod e2
        simp at q0 q1
        subst q0 q1 q2
        have h0 := hat 0 (by omega)
        have h1 := hat 1 (by omega)
        have h2 := hat 2 (by omega)
        rw [Go.Deep.add_add] at h0 h1 h2
        rw [WideShapes.add_plain] at h0 h1 h2
        exact ⟨⟨k, v, l⟩, h0, h1, a', cap', h2, g1, g2, g3.mono (fun g hg _ => hg)⟩
    obtain ⟨X, hX⟩ := Go.Deep.choose_lt key
    refine ⟨some ⟨g, off, spot⟩, (List.range len).map X, cap, by rw [hcs]; simp, by simpa using hl, hm, fun j hj => ?_⟩
    simp at hj
    obtain rfl := hsp (by omega)
    have hc := hX j hj
    exact ⟨g, off, rfl, lt_of_cell (a := ⟨g, _, none⟩) hc.1, X j, by simp [hj], hc⟩

end
end Go.Proofs.Ytfphelhgfjdjoaa
