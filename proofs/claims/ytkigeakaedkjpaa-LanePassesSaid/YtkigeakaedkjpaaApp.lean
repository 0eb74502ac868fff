/-
  append of one value onto a row of the call's own, as one law.
-/
import Derived.Test.YtkigeakaedkjpaaRwrite
namespace Go.Proofs.Ytkigeakaedkjpaa
open Go.RowKit

/-- What an append of the call's own leaves as it was. -/
def Kept (e : TypeId) (B : Nat) (w w' : World) : Prop :=
  w.heap.size ≤ w'.heap.size ∧ (∀ A, Below B A w → Below B A w') ∧
  (∀ (t : TypeId) (v : Value) (l : List Value), t ≠ e → Own t w B v l → Own t w' B v l) ∧
  (∀ (g : Nat) (C : Array Value) (t : TypeId) (fr : Nat × Nat), t ≠ e → w.heap[g]? = some (Obj.cells C t fr) → w'.heap[g]? = some (Obj.cells C t fr))

theorem own_two {w : World} {B : Nat} {e t : TypeId} {v u : Value} {l k : List Value} (h : Own e w B v l) (h' : Own t w B u k) (hne : t ≠ e) : u.ownBlock = none ∨ u.ownBlock ≠ v.ownBlock := by
  rcases h'.2 with ⟨rfl, _⟩ | ⟨g', cap, cur, rfl, _, hh, _⟩
  · exact Or.inl rfl
  · refine Or.inr fun c => own_ne h hh (fun x => hne x.symm) ?_
    rw [← c]; rfl

theorem wpList_app_one {ops : Array Oper} {rest : List Oper} {o : Oper} {a : Act} {Q : Exit → Act → World → Prop} (hgd : o.guard = none) (s x : Operand) (t e : TypeId) (i : TypeInfo) (z : Value) (bytes : Nat)
    (ho : o.op = .call { callee := .builtin .append, args := #[s, x], argTypes := #[t, t] })
    (ht : Try.prog.underlying t = some (.slice e)) (hi : Try.prog.info? e = some i) (hz : i.zero = some z) (h1 : i.size = 1) (hby : i.bytes = bytes) (hzs : z.cells.size = 1) (hb8 : bytes ≤ 8)
    (B : Nat) (w : World) (v : Value) (L : List Value) (u : Value) (hs : a.eval s = v) (hown : Own e w B v L) (hx : a.eval x = .slice (some ⟨w.heap.size, 0, none⟩) 1 1) (hu : u.oneCell' = true)
    (hlen : L.length ≤ 1000000) (hbase : B ≤ w.heap.size)
    (h : ∀ v' w', Own e w' B v' (L ++ [u]) → Kept e B w w' → wpList Try.prog ops Q rest (a.put o.dst v') w') :
    wpList Try.prog ops Q (o :: rest) a (w.alloc (.cells #[u] e)) := by
  refine wpList_append_own _ hgd s x t ho B e i z 1 bytes ht hi hz h1 hby hzs (by decide) v L.length L hs (World.ownsRow.alloc hown _) ⟨w.heap.size, 0, none⟩ 1 1 [u] hx rfl ?_ ?_ ?_ ?_ ?_ ?_
  · intro j y hj
    match j, hj with
    | 0, hj => simp at hj; subst hj; exact (World.cell?_alloc_at _ _ _ _ rfl).trans rfl
  · intro y hy; simp at hy; subst hy; exact hu
  · unfold maxLen; omega
  · have : (L.length + 1) * bytes ≤ (L.length + 1) * 8 := Nat.mul_le_mul_left _ hb8
    omega
  · simp; omega
  · intro v' w' hown' hgrow _
    have hsz : (w.alloc (.cells #[u] e)).heap.size ≤ w'.heap.size := (hgrow.size : _)
    simp at hsz
    refine h v' w' (Own.snoc hown') ⟨by omega, fun A hA => ?_, fun t' v2 l2 hne h2 => ?_, fun g C t' fr hne hg => ?_⟩
    · exact Below.grown (hA.alloc hbase _) hgrow (by simp; omega) (fun q hq => (World.ownsRow.lt hown q hq).1)
    · exact World.ownsRow.kept (World.ownsRow.alloc h2 _) hgrow (own_two hown h2 hne)
    · rw [hgrow.block g (by have := lt_of_heap hg; simp; omega) (fun c => own_ne hown hg (fun x => hne x.symm) c.symm), Below.heap_alloc _ _ _ (lt_of_heap hg)]
      exact hg
end Go.Proofs.Ytkigeakaedkjpaa
