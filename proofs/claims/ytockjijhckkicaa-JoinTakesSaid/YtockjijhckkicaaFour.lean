/-
  Four cells stored in a block: what it holds, and what stays. No function in it.
-/
import Derived.Test.YtockjijhckkicaaReadP
namespace Go.Proofs.Ytockjijhckkicaa
open Go.RowKit

/-- A row of pairs doesn't lie in a parcel's block. -/
theorem Rd.off {w : World} {a : Option Addr} {l : List (Int × Int)} {b : Nat} {s : Int} {c : Bool} {p : Option Addr} {m k : Nat} {x : ByteArray} {t : TypeId} (h : Rd w a (pc l)) (hb : Bk w b (pcc s c (.slice p m k) x) t) (w' : World) (hz : w.heap.size ≤ w'.heap.size) (hw : ∀ g, g ≠ b → w'.heap[g]? = w.heap[g]?) : Rd w' a (pc l) := by
  intro j v hj
  obtain ⟨g, o, rfl, hg, hc⟩ := h j v hj
  have hl : 0 < l.length := by
    have := (List.getElem?_eq_some_iff.mp hj).1
    rw [pc_len] at this
    omega
  obtain ⟨g', o', e, _, c1, c2⟩ := h.pair (k := 0) hl
  simp only [Option.some.injEq, Addr.mk.injEq] at e
  obtain ⟨rfl, rfl, _⟩ := e
  have hne : g ≠ b := by
    rintro rfl
    rw [hb.cell] at c1 c2
    match o, c1, c2 with
    | 0, _, c2 => simp at c2
    | 1, c1, _ => simp at c1
    | 2, c1, _ => simp at c1
    | 3, c1, _ => simp at c1
    | n + 4, c1, _ => simp at c1
  exact ⟨g, o, rfl, Nat.lt_of_lt_of_le hg hz, by rw [World.cell?_of_block (hw g hne)]; exact hc⟩

theorem four_at {v : World} {b : Nat} {s : Int} {c : Bool} {u : Value} {x : ByteArray} {t : TypeId} {x0 x1 x2 x3 : Value} (h : Bk v b (pcc s c u x) t) : Bk ((((v.setCell ⟨b, 0, none⟩ x0).setCell ⟨b, 1, none⟩ x1).setCell ⟨b, 2, none⟩ x2).setCell ⟨b, 3, none⟩ x3) b #[x0, x1, x2, x3] t := by
  have := (((h.set 0 x0).set 1 x1).set 2 x2).set 3 x3
  simpa using this
theorem four_far {v : World} {b b' : Nat} {cs : Array Value} {t : TypeId} {x0 x1 x2 x3 : Value} (h : Bk v b' cs t) (hne : b' ≠ b) : Bk ((((v.setCell ⟨b, 0, none⟩ x0).setCell ⟨b, 1, none⟩ x1).setCell ⟨b, 2, none⟩ x2).setCell ⟨b, 3, none⟩ x3) b' cs t := (((h.far hne).far hne).far hne).far hne
theorem four_rd {v : World} {b : Nat} {s : Int} {c : Bool} {p : Option Addr} {m k : Nat} {x : ByteArray} {t : TypeId} {a : Option Addr} {l : List (Int × Int)} {x0 x1 x2 x3 : Value} (h : Rd v a (pc l)) (hb : Bk v b (pcc s c (.slice p m k) x) t) : Rd ((((v.setCell ⟨b, 0, none⟩ x0).setCell ⟨b, 1, none⟩ x1).setCell ⟨b, 2, none⟩ x2).setCell ⟨b, 3, none⟩ x3) a (pc l) :=
  Rd.off h hb _ (by simp) fun g hg => by
    rw [Below.heap_setCell _ _ _ g hg, Below.heap_setCell _ _ _ g hg, Below.heap_setCell _ _ _ g hg, Below.heap_setCell _ _ _ g hg]
/-- A store into another block than a row's own. -/
theorem OwnK.set {e : TypeId} {k : Nat} {w : World} {B n b j : Nat} {v x : Value} {cs : List Value} (h : OwnK e k w B v n cs) (hb : v.ownBlock ≠ some b) : OwnK e k (w.setCell ⟨b, j, none⟩ x) B v n cs := by
  refine ⟨h.1, ?_⟩
  rcases h.2 with hn | ⟨g, cap, cur, e, hg, hh, r⟩
  · exact Or.inl hn
  · refine Or.inr ⟨g, cap, cur, e, hg, ?_, r⟩
    have hne : g ≠ b := by
      rintro rfl
      exact hb (by rw [e]; rfl)
    rw [Below.heap_setCell w ⟨b, j, none⟩ _ g hne]
    exact hh
theorem four_own {e : TypeId} {k : Nat} {w : World} {B n b : Nat} {v x0 x1 x2 x3 : Value} {cs : List Value} (h : OwnK e k w B v n cs) (hb : v.ownBlock ≠ some b) : OwnK e k ((((w.setCell ⟨b, 0, none⟩ x0).setCell ⟨b, 1, none⟩ x1).setCell ⟨b, 2, none⟩ x2).setCell ⟨b, 3, none⟩ x3) B v n cs := (((h.set hb).set hb).set hb).set hb
end Go.Proofs.Ytockjijhckkicaa
