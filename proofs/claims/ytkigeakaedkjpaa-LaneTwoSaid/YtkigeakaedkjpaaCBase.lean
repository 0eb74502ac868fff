/-
  Parcels as values; blocks that hold given cells; rows of structs of the call's own, and an append of one at a step of a region that draws. No function in it.
-/
import Derived.Test.YtkigeakaedkjpaaCPlain
import Derived.Test.YtkigeakaedkjpaaRread
import Derived.Maps.AppendAt
import Derived.Deep.RegionHeld3
import Derived.Deep.CutRange
import Derived.BigQuiet
import Derived.Laws.OwnMore
namespace Go.Proofs.Ytkigeakaedkjpaa
open Go.RowKit

/-- A parcel's cells. -/
abbrev pcc (s : Int) (c : Bool) (v : Value) (x : ByteArray) : Array Value := #[.int .i64 s, .bool c, v, .string x]
abbrev pcv (s : Int) (c : Bool) (v : Value) (x : ByteArray) : Value := .agg (pcc s c v x)
/-- A row of pairs, cell by cell. -/
def pc (l : List (Int × Int)) : List Value := l.flatMap fun x => [.int .i64 x.1, .int .i64 x.2]
theorem pc_len (l : List (Int × Int)) : (pc l).length = l.length * 2 := by
  induction l with
  | nil => rfl
  | cons x l ih => simp only [pc, List.flatMap_cons] at ih ⊢; rw [List.length_append, ih]; simp; omega
theorem pc_snoc (l : List (Int × Int)) (a b : Int) : pc l ++ [.int .i64 a, .int .i64 b] = pc (l ++ [(a, b)]) := by simp [pc]
theorem pc_at : ∀ (l : List (Int × Int)) (k : Nat), k < l.length → (pc l)[k * 2]? = some (.int .i64 (l.getD k (0, 0)).1) ∧ (pc l)[k * 2 + 1]? = some (.int .i64 (l.getD k (0, 0)).2) := by
  intro l
  induction l with
  | nil => intro k h; simp at h
  | cons x l ih =>
    intro k h
    cases k with
    | zero => simp [pc]
    | succ k =>
      have := ih k (by simpa using h)
      have e : pc (x :: l) = .int .i64 x.1 :: .int .i64 x.2 :: pc l := by simp [pc]
      rw [e, show (k + 1) * 2 = k * 2 + 1 + 1 by omega, show k * 2 + 1 + 1 + 1 = (k * 2 + 1) + 1 + 1 by omega]
      simp only [List.getElem?_cons_succ, List.getD_cons_succ]
      exact this
/-- One pair of a row that is read. -/
theorem Rd.pair {w : World} {a : Option Addr} {l : List (Int × Int)} {k : Nat} (h : Rd w a (pc l)) (hk : k < l.length) : ∃ g o, a = some ⟨g, o, none⟩ ∧ g < w.heap.size ∧ w.cell? ⟨g, o + k * 2, none⟩ = some (.int .i64 (l.getD k (0, 0)).1) ∧ w.cell? ⟨g, o + k * 2 + 1, none⟩ = some (.int .i64 (l.getD k (0, 0)).2) := by
  obtain ⟨h1, h2⟩ := pc_at l k hk
  obtain ⟨g, o, rfl, hg, c1⟩ := h _ _ h1
  obtain ⟨g', o', e, _, c2⟩ := h _ _ h2
  simp only [Option.some.injEq, Addr.mk.injEq] at e
  obtain ⟨rfl, rfl, _⟩ := e
  exact ⟨g, o, rfl, hg, c1, by rw [Nat.add_assoc]; exact c2⟩

/-- A block holds these cells. -/
def Bk (v : World) (b : Nat) (cs : Array Value) (t : TypeId) : Prop := v.heap[b]? = some (.cells cs t (0, 0))
theorem Bk.cell {v : World} {b : Nat} {cs : Array Value} {t : TypeId} (h : Bk v b cs t) (j : Nat) : v.cell? ⟨b, j, none⟩ = cs[j]? := cell_of h j
theorem Bk.free {v : World} {b : Nat} {cs : Array Value} {t : TypeId} (h : Bk v b cs t) (j : Nat) : v.frozen? ⟨b, j, none⟩ = false := by
  unfold Bk at h
  simp [World.frozen?, h]
theorem Bk.lt {v : World} {b : Nat} {cs : Array Value} {t : TypeId} (h : Bk v b cs t) : b < v.heap.size := lt_of_heap h
theorem Bk.below {v v' : World} {B b : Nat} {cs : Array Value} {t : TypeId} (h : Bk v b cs t) (hb : Below B v v') (hB : b < B) : Bk v' b cs t := by
  unfold Bk
  rw [hb.block b hB]
  exact h
theorem Bk.next {v v' : World} {b : Nat} {cs : Array Value} {t : TypeId} (h : Bk v b cs t) (hb : Below v.heap.size v v') : Bk v' b cs t := h.below hb h.lt
theorem Bk.new (w : World) (cs : Array Value) (t : TypeId) : Bk (w.alloc (.cells cs t)) w.heap.size cs t := heap_alloc_new w _
theorem Bk.alloc {v : World} {b : Nat} {cs : Array Value} {t : TypeId} (h : Bk v b cs t) (o : Obj) : Bk (v.alloc o) b cs t := h.next ((Below.refl _ _).alloc (Nat.le_refl _) o)
theorem Bk.drew {v : World} {b : Nat} {cs : Array Value} {t : TypeId} (h : Bk v b cs t) : Bk v.drew b cs t := h
theorem Bk.far {v : World} {b k j : Nat} {cs : Array Value} {t : TypeId} {x : Value} (h : Bk v b cs t) (hne : b ≠ k) : Bk (v.setCell ⟨k, j, none⟩ x) b cs t := by
  unfold Bk
  rw [Below.heap_setCell v ⟨k, j, none⟩ _ b hne]
  exact h
theorem Bk.two {v : World} {b : Nat} {s : Int} {c : Bool} {u : Value} {x : ByteArray} {t : TypeId} (h : Bk v b (pcc s c u x) t) (u' : Value) : Bk (v.setCell ⟨b, 2, none⟩ u') b (pcc s c u' x) t := by
  unfold Bk at h ⊢
  simp [World.setCell, Array.getElem?_modify, h]
theorem Bk.kept {v v' : World} {b : Nat} {cs : Array Value} {t : TypeId} {r : Option Nat} (h : Bk v b cs t) (hg : v.grownBy v' r) (hne : r ≠ some b) : Bk v' b cs t := by
  unfold Bk
  rw [hg.block b h.lt (fun e => hne e.symm)]
  exact h

theorem below_four {w v : World} {B b : Nat} (h : Below B w v) (hb : B ≤ b) (x0 x1 x2 x3 : Value) : Below B w ((((v.setCell ⟨b, 0, none⟩ x0).setCell ⟨b, 1, none⟩ x1).setCell ⟨b, 2, none⟩ x2).setCell ⟨b, 3, none⟩ x3) :=
  (((h.setCell hb _).setCell hb _).setCell hb _).setCell hb _

/-- Rows of the call's own, of elements of k cells. -/
def OwnK (e : TypeId) (k : Nat) (w : World) (B : Nat) (v : Value) (n : Nat) (cs : List Value) : Prop := w.ownsRow B e k v n cs
theorem OwnK.nil (w : World) (B : Nat) (e : TypeId) (k : Nat) : OwnK e k w B (.slice none 0 0) 0 [] := World.ownsRow_nil w B e k
theorem OwnK.below {e : TypeId} {k : Nat} {w w' : World} {B n : Nat} {v : Value} {cs : List Value} (h : OwnK e k w B v n cs) (hb : Below w.heap.size w w') : OwnK e k w' B v n cs := by
  refine ⟨h.1, ?_⟩
  rcases h.2 with hn | ⟨g, cap, cur, e, hg, hh, r⟩
  · exact Or.inl hn
  · exact Or.inr ⟨g, cap, cur, e, hg, by rw [hb.block g (lt_of_heap hh)]; exact hh, r⟩
theorem OwnK.far {e : TypeId} {k : Nat} {w : World} {B n b j : Nat} {v x : Value} {cs : List Value} (h : OwnK e k w B v n cs) (hb : b < B) : OwnK e k (w.setCell ⟨b, j, none⟩ x) B v n cs := by
  refine ⟨h.1, ?_⟩
  rcases h.2 with hn | ⟨g, cap, cur, e, hg, hh, r⟩
  · exact Or.inl hn
  · exact Or.inr ⟨g, cap, cur, e, hg, by rw [Below.heap_setCell w ⟨b, j, none⟩ _ g (by show g ≠ b; omega)]; exact hh, r⟩
theorem OwnK.mono {e : TypeId} {k : Nat} {w : World} {B B' n : Nat} {v : Value} {cs : List Value} (h : OwnK e k w B v n cs) (hb : B' ≤ B) : OwnK e k w B' v n cs := by
  refine ⟨h.1, ?_⟩
  rcases h.2 with hn | ⟨g, cap, cur, e, hg, r⟩
  · exact Or.inl hn
  · exact Or.inr ⟨g, cap, cur, e, Nat.le_trans hb hg, r⟩
theorem OwnK.rd {t : TypeId} {k : Nat} {w : World} {B n : Nat} {v : Value} {cs : List Value} (h : OwnK t k w B v n cs) (_hk : 0 < k) : ∃ a cap, v = .slice a n cap ∧ n ≤ cap ∧ cap ≤ maxLen ∧ Rd w a cs := by
  obtain ⟨h1, h2⟩ := h
  rcases h2 with ⟨rfl, h2⟩ | ⟨g, cap, cur, rfl, hg, hh, hc1, hc2, hc3, hc4⟩
  · refine ⟨none, 0, by rw [h2], by omega, by simp [maxLen], fun j v hj => ?_⟩
    rw [h2, Nat.zero_mul] at h1
    have : cs = [] := List.eq_nil_of_length_eq_zero h1
    subst this
    cases hj
  · refine ⟨_, _, rfl, hc1, hc2, fun j v hj => ⟨g, 0, rfl, lt_of_heap hh, ?_⟩⟩
    have hlt : j < n * k := by
      have := (List.getElem?_eq_some_iff.mp hj).1
      rw [← h1]; exact this
    rw [Nat.zero_add, cell_of hh]
    have : cur[j]? = (List.take (n * k) cur.toList)[j]? := by rw [List.getElem?_take_of_lt hlt]; simp
    rw [this, hc4]
    exact hj
/-- Its block: of the call's own, and of its elements' type. -/
theorem OwnK.lt {t : TypeId} {k : Nat} {w : World} {B n : Nat} {v : Value} {cs : List Value} (h : OwnK t k w B v n cs) {q : Nat} (hq : v.ownBlock = some q) : B ≤ q ∧ q < w.heap.size := World.ownsRow.lt h q hq
theorem OwnK.ne {e t : TypeId} {k : Nat} {w : World} {B n b : Nat} {v : Value} {l : List Value} {cs : Array Value} (h : OwnK e k w B v n l) (hg : Bk w b cs t) (hne : e ≠ t) : v.ownBlock ≠ some b := by
  rcases h.2 with ⟨rfl, _⟩ | ⟨g', cap, cur, rfl, _, hh, _⟩
  · simp [Value.ownBlock]
  · intro he
    have : g' = b := by simpa [Value.ownBlock] using he
    subst this
    unfold Bk at hg
    rw [hg] at hh
    injection hh with hh
    injection hh with _ ht
    exact hne ht.symm

/-- At a step of a region that draws: one element more. -/
theorem step_app_k {P : Program} {ops : Array Oper} {o : Oper} {a : Act} {K : Act → World → Prop} {Q : Exit → Act → World → Prop} {E : Prop} (hgd : o.guard = none) (s x : Operand) (t e : TypeId) (i : TypeInfo) (z : Value) (k bytes : Nat)
    (ho : o.op = .call { callee := .builtin .append, args := #[s, x], argTypes := #[t, t] })
    (ht : P.underlying t = some (.slice e)) (hi : P.info? e = some i) (hz : i.zero = some z) (h1 : i.size = k) (hby : i.bytes = bytes) (hzs : z.cells.size = k) (hk0 : 0 < k) (hb8 : bytes ≤ 64)
    (B : Nat) (w : World) (v : Value) (n : Nat) (cs news : List Value) (g : Nat) (hs : a.eval s = v) (hown : OwnK e k w B v n cs) (hx : a.eval x = .slice (some ⟨g, 0, none⟩) 1 1)
    (hl : news.length = k) (hn : ∀ j u, news[j]? = some u → w.cell? ⟨g, j, none⟩ = some u) (hone : ∀ u ∈ news, u.oneCell' = true) (hlen : n ≤ 1000000) (hbase : B ≤ w.heap.size)
    (h : ∀ v' w', OwnK e k w' B v' (n + 1) (cs ++ news) → w.grownBy w' v.ownBlock → K (a.put o.dst v') w') :
    if Region.wanted o (yielded ops a.tmps) = true then Oper.wp P o a w K Q else E := by
  have hw : Region.wanted o (yielded ops a.tmps) = true := by simp [Region.wanted, hgd]
  rw [if_pos hw]
  obtain ⟨v', w', hrun, h2, h3, _, _⟩ := run_append_own_at (P := P) w B t o.type e i z k bytes ht hi hz h1 hby hzs hk0 v n cs hown ⟨g, 0, none⟩ 1 1 news (by rw [hl, Nat.one_mul])
    (fun j u hj => by rw [WideShapes.add_plain, Nat.zero_add]; exact hn j u hj) hone (by unfold maxLen; omega) (by have : (n + 1) * bytes ≤ (n + 1) * 64 := Nat.mul_le_mul_left _ hb8; omega) hbase
  unfold Oper.wp
  simp [execOp, ho, resolve, invoke, builtin, hs, hx, hrun, Result.andThen]
  exact h v' w' h2 h3
end Go.Proofs.Ytkigeakaedkjpaa
