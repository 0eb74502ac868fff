/-
  Slices of the call's own that read as a list; append of one value as one law, over whatever program.
-/
import Derived.WalkKit
import Derived.OwnWalk
import Derived.WalkSmall
import Derived.ProofKit
import Derived.KernelRfl
namespace Go.Proofs.YtaohimmmhpmgdaaDoor
open Go.RowKit

theorem lt_of_heap {w : World} {b : Nat} {x : Obj} (h : w.heap[b]? = some x) : b < w.heap.size := by
  rcases Nat.lt_or_ge b w.heap.size with h' | h'
  · exact h'
  · rw [Array.getElem?_eq_none h'] at h; cases h
theorem cell_of {w : World} {b : Nat} {c : Array Value} {t : TypeId} {fr : Nat × Nat} (h : w.heap[b]? = some (.cells c t fr)) (k : Nat) : w.cell? ⟨b, k, none⟩ = c[k]? := by
  simp [World.cell?, h]

/-- A slice that reads as these values: in one block. -/
def Rd (w : World) (a : Option Addr) (vs : List Value) : Prop :=
  ∀ (j : Nat) (v : Value), vs[j]? = some v → ∃ g, a = some ⟨g, 0, none⟩ ∧ g < w.heap.size ∧ w.cell? ⟨g, j, none⟩ = some v
theorem Rd.keep {w w' : World} {a : Option Addr} {vs : List Value} (h : Rd w a vs) (hs : w.heap.size ≤ w'.heap.size) (hk : ∀ g, g < w.heap.size → w'.heap[g]? = w.heap[g]?) : Rd w' a vs := fun j v hj => by
  obtain ⟨g, h1, h2, h3⟩ := h j v hj
  exact ⟨g, h1, by omega, by rw [World.cell?_of_block (hk g h2)]; exact h3⟩
theorem Rd.below {w w' : World} {a : Option Addr} {vs : List Value} (h : Rd w a vs) (b : Below w.heap.size w w') : Rd w' a vs := h.keep b.size (fun g hg => b.block g hg)
theorem Rd.alloc {w : World} {a : Option Addr} {vs : List Value} (h : Rd w a vs) (o : Obj) : Rd (w.alloc o) a vs := h.keep (by simp) (fun g hg => Below.heap_alloc _ _ _ hg)

def Own (e : TypeId) (w : World) (B : Nat) (v : Value) (l : List Value) : Prop := w.ownsRow B e 1 v l.length l
theorem Own.rd {t : TypeId} {w : World} {B : Nat} {v : Value} {l : List Value} (h : Own t w B v l) : ∃ a cap, v = .slice a l.length cap ∧ l.length ≤ cap ∧ cap ≤ maxLen ∧ Rd w a l := by
  obtain ⟨h1, h2⟩ := h
  rcases h2 with ⟨rfl, h2⟩ | ⟨g, cap, cur, rfl, hg, hh, hc1, hc2, hc3, hc4⟩
  · refine ⟨none, 0, by rw [h2], by omega, by simp [maxLen], fun j v hj => ?_⟩
    have : l = [] := List.eq_nil_of_length_eq_zero h2
    subst this
    cases hj
  · refine ⟨_, _, rfl, hc1, hc2, fun j v hj => ⟨g, rfl, lt_of_heap hh, ?_⟩⟩
    have hlt : j < l.length * 1 := by
      have := (List.getElem?_eq_some_iff.mp hj).1
      rw [← h1]; exact this
    rw [cell_of hh]
    have : cur[j]? = (List.take (l.length * 1) cur.toList)[j]? := by rw [List.getElem?_take_of_lt hlt]; simp
    rw [this, hc4]
    exact hj
/-- A row that is not empty: its block. -/
theorem Own.form {e : TypeId} {w : World} {B : Nat} {v : Value} {l : List Value} (h : Own e w B v l) (hl : 0 < l.length) :
    ∃ g cap, v = .slice (some ⟨g, 0, none⟩) l.length cap ∧ l.length ≤ cap ∧ cap ≤ maxLen ∧ B ≤ g ∧ g < w.heap.size ∧ ∀ j x, l[j]? = some x → w.cell? ⟨g, j, none⟩ = some x := by
  have h0 := h
  obtain ⟨h1, h2⟩ := h
  rcases h2 with ⟨rfl, h2⟩ | ⟨g, cap, cur, rfl, hg, hh, hc1, hc2, hc3, hc4⟩
  · omega
  · refine ⟨g, cap, rfl, hc1, hc2, hg, lt_of_heap hh, fun j x hj => ?_⟩
    obtain ⟨a, cap', e, _, _, hr⟩ := h0.rd
    obtain ⟨g', e', _, hc⟩ := hr j x hj
    simp only [Value.slice.injEq] at e
    obtain ⟨e, _⟩ := e
    rw [e'] at e
    simp only [Option.some.injEq, Addr.mk.injEq] at e
    obtain ⟨rfl, _⟩ := e
    exact hc
theorem Own.snoc {t : TypeId} {w : World} {B : Nat} {v x : Value} {l : List Value} (h : w.ownsRow B t 1 v (l.length + 1) (l ++ [x])) : Own t w B v (l ++ [x]) := by
  unfold Own
  simpa using h
theorem Own.nil (w : World) (B : Nat) (e : TypeId) : Own e w B (.slice none 0 0) [] := World.ownsRow_nil w B e 1
theorem Own.mono {e : TypeId} {w : World} {B B' : Nat} {v : Value} {l : List Value} (h : Own e w B v l) (hb : B' ≤ B) : Own e w B' v l := by
  refine ⟨h.1, ?_⟩
  rcases h.2 with hn | ⟨g, cap, cur, e, hg, r⟩
  · exact Or.inl hn
  · exact Or.inr ⟨g, cap, cur, e, Nat.le_trans hb hg, r⟩
theorem Own.below {e : TypeId} {w w' : World} {B : Nat} {v : Value} {l : List Value} (h : Own e w B v l) (hb : Below w.heap.size w w') : Own e w' B v l := by
  refine ⟨h.1, ?_⟩
  rcases h.2 with hn | ⟨g, cap, cur, e, hg, hh, r⟩
  · exact Or.inl hn
  · exact Or.inr ⟨g, cap, cur, e, hg, by rw [hb.block g (lt_of_heap hh)]; exact hh, r⟩
/-- Written out. -/
theorem Own.lit {e : TypeId} {w : World} {B : Nat} (xs : Array Value) (hb : B ≤ w.heap.size) (hn : xs.size ≤ 1000) : Own e (w.alloc (.cells xs e)) B (.slice (some ⟨w.heap.size, 0, none⟩) xs.size xs.size) xs.toList := by
  have h := World.ownsRow_lit (e := e) (size := 1) (base := B) w xs xs.size hb (by unfold maxLen; omega) (by simp)
  unfold Own
  simpa using h
theorem own_ne {w : World} {B : Nat} {e t : TypeId} {v : Value} {l : List Value} {g : Nat} {C : Array Value} {fr : Nat × Nat} (h : Own e w B v l) (hg : w.heap[g]? = some (.cells C t fr)) (hne : e ≠ t) : v.ownBlock ≠ some g := by
  rcases h.2 with ⟨rfl, _⟩ | ⟨g', cap, cur, rfl, _, hh, _⟩
  · simp [Value.ownBlock]
  · intro he
    have : g' = g := by simpa [Value.ownBlock] using he
    subst this
    rw [hg] at hh
    injection hh with hh
    injection hh with _ ht
    exact hne ht.symm
theorem own_two {w : World} {B : Nat} {e t : TypeId} {v u : Value} {l k : List Value} (h : Own e w B v l) (h' : Own t w B u k) (hne : t ≠ e) : u.ownBlock = none ∨ u.ownBlock ≠ v.ownBlock := by
  rcases h'.2 with ⟨rfl, _⟩ | ⟨g', cap, cur, rfl, _, hh, _⟩
  · exact Or.inl rfl
  · refine Or.inr fun c => own_ne h hh (fun x => hne x.symm) ?_
    rw [← c]; rfl

/-- What an append of the call's own leaves as it was. -/
def Kept (e : TypeId) (B : Nat) (w w' : World) : Prop :=
  w.heap.size ≤ w'.heap.size ∧ (∀ A, Below B A w → Below B A w') ∧
  (∀ (t : TypeId) (v : Value) (l : List Value), t ≠ e → Own t w B v l → Own t w' B v l) ∧
  (∀ (g : Nat) (C : Array Value) (t : TypeId) (fr : Nat × Nat), t ≠ e → w.heap[g]? = some (Obj.cells C t fr) → w'.heap[g]? = some (Obj.cells C t fr))

theorem wpList_app_one {P : Program} {ops : Array Oper} {rest : List Oper} {o : Oper} {a : Act} {Q : Exit → Act → World → Prop} (hgd : o.guard = none) (s x : Operand) (t e : TypeId) (i : TypeInfo) (z : Value) (bytes : Nat)
    (ho : o.op = .call { callee := .builtin .append, args := #[s, x], argTypes := #[t, t] })
    (ht : P.underlying t = some (.slice e)) (hi : P.info? e = some i) (hz : i.zero = some z) (h1 : i.size = 1) (hby : i.bytes = bytes) (hzs : z.cells.size = 1) (hb8 : bytes ≤ 64)
    (B : Nat) (w : World) (v : Value) (L : List Value) (u : Value) (hs : a.eval s = v) (hown : Own e w B v L) (hx : a.eval x = .slice (some ⟨w.heap.size, 0, none⟩) 1 1) (hu : u.oneCell' = true)
    (hlen : L.length ≤ 1000000) (hbase : B ≤ w.heap.size)
    (h : ∀ v' w', Own e w' B v' (L ++ [u]) → Kept e B w w' → wpList P ops Q rest (a.put o.dst v') w') :
    wpList P ops Q (o :: rest) a (w.alloc (.cells #[u] e)) := by
  refine wpList_append_own _ hgd s x t ho B e i z 1 bytes ht hi hz h1 hby hzs (by decide) v L.length L hs (World.ownsRow.alloc hown _) ⟨w.heap.size, 0, none⟩ 1 1 [u] hx rfl ?_ ?_ ?_ ?_ ?_ ?_
  · intro j y hj
    match j, hj with
    | 0, hj => simp at hj; subst hj; exact (World.cell?_alloc_at _ _ _ _ rfl).trans rfl
  · intro y hy; simp at hy; subst hy; exact hu
  · unfold maxLen; omega
  · have : (L.length + 1) * bytes ≤ (L.length + 1) * 64 := Nat.mul_le_mul_left _ hb8
    omega
  · simp; omega
  · intro v' w' hown' hgrow _
    have hsz : (w.alloc (.cells #[u] e)).heap.size ≤ w'.heap.size := (hgrow.size : _)
    simp at hsz
    refine h v' w' (Own.snoc hown') ⟨by omega, fun A hA => ?_, fun t' v2 l2 hne h2 => ?_, fun g C t' fr hne hg => ?_⟩
    · exact Below.grown (hA.alloc hbase _) hgrow (by simp; omega) (fun q hq => (World.ownsRow.lt hown q hq).1)
    · exact World.ownsRow.kept (World.ownsRow.alloc h2 _) hgrow (own_two hown h2 hne)
    · rw [hgrow.block g (by have := lt_of_heap hg; simp; omega) (fun c => own_ne hown hg (fun x => hne x.symm) c.symm), Below.heap_alloc _ _ _ (lt_of_heap hg)]
      exact hg
end Go.Proofs.YtaohimmmhpmgdaaDoor
