/-
  Rows of pairs of the call's own; append of one pair as one law.
-/
import Derived.Test.YtaohimmmhpmgdaaDoorVi
namespace Go.Proofs.YtaohimmmhpmgdaaDoor
open Go.RowKit

/-- A row of pairs, cell by cell. -/
def pc (l : List (Int × Int)) : List Value := l.flatMap fun x => [.int .i64 x.1, .int .i64 x.2]
theorem pc_len (l : List (Int × Int)) : (pc l).length = l.length * 2 := by
  induction l with
  | nil => rfl
  | cons x l ih => simp only [pc, List.flatMap_cons] at ih ⊢; rw [List.length_append, ih]; simp; omega
theorem pc_snoc (l : List (Int × Int)) (a b : Int) : pc l ++ [.int .i64 a, .int .i64 b] = pc (l ++ [(a, b)]) := by simp [pc]
theorem pc_at : ∀ (l : List (Int × Int)) (k : Nat), k < l.length → (pc l)[2 * k]? = some (.int .i64 (l.getD k (0, 0)).1) ∧ (pc l)[2 * k + 1]? = some (.int .i64 (l.getD k (0, 0)).2) := by
  intro l
  induction l with
  | nil => intro k h; simp at h
  | cons x l ih =>
    intro k h
    cases k with
    | zero => simp [pc]
    | succ k =>
      have := ih k (by simpa using h)
      have e : pc (x :: l) = .int .i64 x.1 :: .int .i64 x.2 :: pc l := by simp [pc]
      rw [e, show 2 * (k + 1) = 2 * k + 1 + 1 by omega, show 2 * k + 1 + 1 + 1 = (2 * k + 1) + 1 + 1 by omega]
      simp only [List.getElem?_cons_succ, List.getD_cons_succ]
      exact this

def OwnP (e : TypeId) (w : World) (B : Nat) (v : Value) (l : List (Int × Int)) : Prop := w.ownsRow B e 2 v l.length (pc l)
theorem OwnP.nil (w : World) (B : Nat) (e : TypeId) : OwnP e w B (.slice none 0 0) [] := World.ownsRow_nil w B e 2
theorem OwnP.mono {e : TypeId} {w : World} {B B' : Nat} {v : Value} {l : List (Int × Int)} (h : OwnP e w B v l) (hb : B' ≤ B) : OwnP e w B' v l := by
  refine ⟨h.1, ?_⟩
  rcases h.2 with hn | ⟨g, cap, cur, e, hg, r⟩
  · exact Or.inl hn
  · exact Or.inr ⟨g, cap, cur, e, Nat.le_trans hb hg, r⟩
theorem OwnP.below {e : TypeId} {w w' : World} {B : Nat} {v : Value} {l : List (Int × Int)} (h : OwnP e w B v l) (hb : Below w.heap.size w w') : OwnP e w' B v l := by
  refine ⟨h.1, ?_⟩
  rcases h.2 with hn | ⟨g, cap, cur, e, hg, hh, r⟩
  · exact Or.inl hn
  · exact Or.inr ⟨g, cap, cur, e, hg, by rw [hb.block g (lt_of_heap hh)]; exact hh, r⟩
theorem OwnP.rd {t : TypeId} {w : World} {B : Nat} {v : Value} {l : List (Int × Int)} (h : OwnP t w B v l) : ∃ a cap, v = .slice a l.length cap ∧ l.length ≤ cap ∧ cap ≤ maxLen ∧ Rd w a (pc l) := by
  obtain ⟨h1, h2⟩ := h
  rcases h2 with ⟨rfl, h2⟩ | ⟨g, cap, cur, rfl, hg, hh, hc1, hc2, hc3, hc4⟩
  · refine ⟨none, 0, by rw [h2], by omega, by simp [maxLen], fun j v hj => ?_⟩
    have : l = [] := List.eq_nil_of_length_eq_zero h2
    subst this
    cases hj
  · refine ⟨_, _, rfl, hc1, hc2, fun j v hj => ⟨g, rfl, lt_of_heap hh, ?_⟩⟩
    have hlt : j < l.length * 2 := by
      have := (List.getElem?_eq_some_iff.mp hj).1
      rw [← h1]; exact this
    rw [cell_of hh]
    have : cur[j]? = (List.take (l.length * 2) cur.toList)[j]? := by rw [List.getElem?_take_of_lt hlt]; simp
    rw [this, hc4]
    exact hj

theorem row_ne {w : World} {B n s : Nat} {e t : TypeId} {v : Value} {l : List Value} {g : Nat} {C : Array Value} {fr : Nat × Nat} (h : w.ownsRow B e s v n l) (hg : w.heap[g]? = some (.cells C t fr)) (hne : e ≠ t) : v.ownBlock ≠ some g := by
  rcases h.2 with ⟨rfl, _⟩ | ⟨g', cap, cur, rfl, _, hh, _⟩
  · simp [Value.ownBlock]
  · intro he
    have : g' = g := by simpa [Value.ownBlock] using he
    subst this
    rw [hg] at hh
    injection hh with hh
    injection hh with _ ht
    exact hne ht.symm
theorem row_two {w : World} {B n s m r : Nat} {e t : TypeId} {v u : Value} {l k : List Value} (h : w.ownsRow B e s v n l) (h' : w.ownsRow B t r u m k) (hne : t ≠ e) : u.ownBlock = none ∨ u.ownBlock ≠ v.ownBlock := by
  rcases h'.2 with ⟨rfl, _⟩ | ⟨g', cap, cur, rfl, _, hh, _⟩
  · exact Or.inl rfl
  · refine Or.inr fun c => row_ne h hh (fun x => hne x.symm) ?_
    rw [← c]; rfl

theorem wpList_app_pair {P : Program} {ops : Array Oper} {rest : List Oper} {o : Oper} {a : Act} {Q : Exit → Act → World → Prop} (hgd : o.guard = none) (s x : Operand) (t e : TypeId) (i : TypeInfo) (z : Value) (bytes : Nat)
    (ho : o.op = .call { callee := .builtin .append, args := #[s, x], argTypes := #[t, t] })
    (ht : P.underlying t = some (.slice e)) (hi : P.info? e = some i) (hz : i.zero = some z) (h1 : i.size = 2) (hby : i.bytes = bytes) (hzs : z.cells.size = 2) (hb8 : bytes ≤ 64)
    (B : Nat) (w : World) (v : Value) (L : List (Int × Int)) (p q : Int) (hs : a.eval s = v) (hown : OwnP e w B v L) (hx : a.eval x = .slice (some ⟨w.heap.size, 0, none⟩) 1 1)
    (hlen : L.length ≤ 1000000) (hbase : B ≤ w.heap.size)
    (h : ∀ v' w', OwnP e w' B v' (L ++ [(p, q)]) → Kept e B w w' → wpList P ops Q rest (a.put o.dst v') w') :
    wpList P ops Q (o :: rest) a (w.alloc (.cells #[.int .i64 p, .int .i64 q] e)) := by
  refine wpList_append_own _ hgd s x t ho B e i z 2 bytes ht hi hz h1 hby hzs (by decide) v L.length (pc L) hs (World.ownsRow.alloc hown _) ⟨w.heap.size, 0, none⟩ 1 1 [.int .i64 p, .int .i64 q] hx rfl ?_ ?_ ?_ ?_ ?_ ?_
  · intro j y hj
    match j, hj with
    | 0, hj => simp at hj; subst hj; exact (World.cell?_alloc_at _ _ _ _ rfl).trans rfl
    | 1, hj => simp at hj; subst hj; exact (World.cell?_alloc_at _ _ _ _ rfl).trans rfl
  · intro y hy
    simp at hy
    rcases hy with rfl | rfl <;> rfl
  · unfold maxLen; omega
  · have : (L.length + 1) * bytes ≤ (L.length + 1) * 64 := Nat.mul_le_mul_left _ hb8
    omega
  · simp; omega
  · intro v' w' hown' hgrow _
    have hsz : (w.alloc (.cells #[.int .i64 p, .int .i64 q] e)).heap.size ≤ w'.heap.size := (hgrow.size : _)
    simp at hsz
    have ho' : OwnP e w' B v' (L ++ [(p, q)]) := by
      unfold OwnP
      rw [← pc_snoc]
      simpa using hown'
    refine h v' w' ho' ⟨by omega, fun A hA => ?_, fun t' v2 l2 hne h2 => ?_, fun g C t' fr hne hg => ?_⟩
    · exact Below.grown (hA.alloc hbase _) hgrow (by simp; omega) (fun q hq => (World.ownsRow.lt hown q hq).1)
    · exact World.ownsRow.kept (World.ownsRow.alloc h2 _) hgrow (row_two hown h2 hne)
    · rw [hgrow.block g (by have := lt_of_heap hg; simp; omega) (fun c => row_ne hown hg (fun x => hne x.symm) c.symm), Below.heap_alloc _ _ _ (lt_of_heap hg)]
      exact hg
end Go.Proofs.YtaohimmmhpmgdaaDoor
