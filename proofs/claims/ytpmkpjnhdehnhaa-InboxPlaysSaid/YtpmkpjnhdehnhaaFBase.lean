/-
  Slices that read as a list; blocks that hold given cells; what may have turned; rows of the call's own. No function in it, no type of the program's: for any seat.
-/
import Derived.Test.YtpmkpjnhdehnhaaProg
import Derived.WalkKit
import Derived.BigQuiet
import Derived.Deep.QuietTactic
import Derived.WalkSpells
import Derived.WalkLawsBesides
import Derived.KernelRfl
import Derived.WalkSmall
import Derived.OwnWalk
import Derived.ProofKit
import Derived.Maps.AppendAt
import Derived.Deep.RegionHeld3
import Derived.Deep.CutRange
import Derived.Laws.OwnMore
import Derived.OrdersHeld
namespace Go.Proofs.Ytpmkpjnhdehnhaa
open Go.RowKit

/-- A slice that reads as these values. -/
def Rd (w : World) (a : Option Addr) (vs : List Value) : Prop :=
  ∀ (j : Nat) (v : Value), vs[j]? = some v → ∃ g off, a = some ⟨g, off, none⟩ ∧ g < w.heap.size ∧ w.cell? ⟨g, off + j, none⟩ = some v


theorem lt_of_heap {w : World} {b : Nat} {x : Obj} (h : w.heap[b]? = some x) : b < w.heap.size := by
  rcases Nat.lt_or_ge b w.heap.size with h' | h'
  · exact h'
  · rw [Array.getElem?_eq_none h'] at h; cases h
theorem cell_of {w : World} {b : Nat} {c : Array Value} {t : TypeId} {fr : Nat × Nat} (h : w.heap[b]? = some (.cells c t fr)) (k : Nat) : w.cell? ⟨b, k, none⟩ = c[k]? := by
  simp [World.cell?, h]

theorem Rd.keep {w w' : World} {a : Option Addr} {vs : List Value} (h : Rd w a vs) (hs : w.heap.size ≤ w'.heap.size) (hk : ∀ g, g < w.heap.size → w'.heap[g]? = w.heap[g]?) : Rd w' a vs := fun j v hj => by
  obtain ⟨g, off, h1, h2, h3⟩ := h j v hj
  exact ⟨g, off, h1, by omega, by rw [World.cell?_of_block (hk g h2)]; exact h3⟩
theorem Rd.below {w w' : World} {a : Option Addr} {vs : List Value} (h : Rd w a vs) (b : Below w.heap.size w w') : Rd w' a vs := h.keep b.size (fun g hg => b.block g hg)
theorem Rd.drewN {w : World} {a : Option Addr} {vs : List Value} (h : Rd w a vs) (n : Nat) : Rd (w.drewN n) a vs := h
theorem Rd.alloc {w : World} {a : Option Addr} {vs : List Value} (h : Rd w a vs) (o : Obj) : Rd (w.alloc o) a vs := h.keep (by simp) (fun g hg => Below.heap_alloc _ _ _ hg)
theorem Rd.take {w : World} {a : Option Addr} {vs : List Value} (h : Rd w a vs) (k : Nat) : Rd w a (vs.take k) := fun j v hj => by
  rw [List.getElem?_take] at hj
  split at hj
  · exact h j v hj
  · cases hj

/-- A block holds these cells. -/
def Bk (v : World) (b : Nat) (cs : Array Value) (t : TypeId) : Prop := v.heap[b]? = some (.cells cs t (0, 0))
theorem Bk.cell {v : World} {b : Nat} {cs : Array Value} {t : TypeId} (h : Bk v b cs t) (j : Nat) : v.cell? ⟨b, j, none⟩ = cs[j]? := cell_of h j
theorem Bk.free {v : World} {b : Nat} {cs : Array Value} {t : TypeId} (h : Bk v b cs t) (j : Nat) : v.frozen? ⟨b, j, none⟩ = false := by
  unfold Bk at h
  simp [World.frozen?, h]
theorem Bk.lt {v : World} {b : Nat} {cs : Array Value} {t : TypeId} (h : Bk v b cs t) : b < v.heap.size := lt_of_heap h
theorem Bk.below {v v' : World} {B b : Nat} {cs : Array Value} {t : TypeId} (h : Bk v b cs t) (hb : Below B v v') (hB : b < B) : Bk v' b cs t := by
  unfold Bk
  rw [hb.block b hB]
  exact h
theorem Bk.next {v v' : World} {b : Nat} {cs : Array Value} {t : TypeId} (h : Bk v b cs t) (hb : Below v.heap.size v v') : Bk v' b cs t := h.below hb h.lt
theorem Bk.new (w : World) (cs : Array Value) (t : TypeId) : Bk (w.alloc (.cells cs t)) w.heap.size cs t := heap_alloc_new w _
theorem Bk.alloc {v : World} {b : Nat} {cs : Array Value} {t : TypeId} (h : Bk v b cs t) (o : Obj) : Bk (v.alloc o) b cs t := h.next ((Below.refl _ _).alloc (Nat.le_refl _) o)
theorem Bk.drew {v : World} {b : Nat} {cs : Array Value} {t : TypeId} (h : Bk v b cs t) : Bk v.drew b cs t := h
theorem Bk.far {v : World} {b k j : Nat} {cs : Array Value} {t : TypeId} {x : Value} (h : Bk v b cs t) (hne : b ≠ k) : Bk (v.setCell ⟨k, j, none⟩ x) b cs t := by
  unfold Bk
  rw [Below.heap_setCell v ⟨k, j, none⟩ _ b hne]
  exact h
theorem Bk.kept {v v' : World} {b : Nat} {cs : Array Value} {t : TypeId} {r : Option Nat} (h : Bk v b cs t) (hg : v.grownBy v' r) (hne : r ≠ some b) : Bk v' b cs t := by
  unfold Bk
  rw [hg.block b h.lt (fun e => hne e.symm)]
  exact h
theorem Bk.set {v : World} {b : Nat} {cs : Array Value} {t : TypeId} (h : Bk v b cs t) (k : Nat) (x : Value) : Bk (v.setCell ⟨b, k, none⟩ x) b (cs.setIfInBounds k x) t := by
  unfold Bk at h ⊢
  simp [World.setCell, Array.getElem?_modify, h]

/-- Rows of the call's own, of elements of k cells. -/
def OwnK (e : TypeId) (k : Nat) (w : World) (B : Nat) (v : Value) (n : Nat) (cs : List Value) : Prop := w.ownsRow B e k v n cs
theorem OwnK.nil (w : World) (B : Nat) (e : TypeId) (k : Nat) : OwnK e k w B (.slice none 0 0) 0 [] := World.ownsRow_nil w B e k
theorem OwnK.below {e : TypeId} {k : Nat} {w w' : World} {B n : Nat} {v : Value} {cs : List Value} (h : OwnK e k w B v n cs) (hb : Below w.heap.size w w') : OwnK e k w' B v n cs := by
  refine ⟨h.1, ?_⟩
  rcases h.2 with hn | ⟨g, cap, cur, e, hg, hh, r⟩
  · exact Or.inl hn
  · exact Or.inr ⟨g, cap, cur, e, hg, by rw [hb.block g (lt_of_heap hh)]; exact hh, r⟩
theorem OwnK.far {e : TypeId} {k : Nat} {w : World} {B n b j : Nat} {v x : Value} {cs : List Value} (h : OwnK e k w B v n cs) (hb : b < B) : OwnK e k (w.setCell ⟨b, j, none⟩ x) B v n cs := by
  refine ⟨h.1, ?_⟩
  rcases h.2 with hn | ⟨g, cap, cur, e, hg, hh, r⟩
  · exact Or.inl hn
  · exact Or.inr ⟨g, cap, cur, e, hg, by rw [Below.heap_setCell w ⟨b, j, none⟩ _ g (by show g ≠ b; omega)]; exact hh, r⟩
theorem OwnK.mono {e : TypeId} {k : Nat} {w : World} {B B' n : Nat} {v : Value} {cs : List Value} (h : OwnK e k w B v n cs) (hb : B' ≤ B) : OwnK e k w B' v n cs := by
  refine ⟨h.1, ?_⟩
  rcases h.2 with hn | ⟨g, cap, cur, e, hg, r⟩
  · exact Or.inl hn
  · exact Or.inr ⟨g, cap, cur, e, Nat.le_trans hb hg, r⟩
theorem OwnK.rd {t : TypeId} {k : Nat} {w : World} {B n : Nat} {v : Value} {cs : List Value} (h : OwnK t k w B v n cs) (_hk : 0 < k) : ∃ a cap, v = .slice a n cap ∧ n ≤ cap ∧ cap ≤ maxLen ∧ Rd w a cs := by
  obtain ⟨h1, h2⟩ := h
  rcases h2 with ⟨rfl, h2⟩ | ⟨g, cap, cur, rfl, hg, hh, hc1, hc2, hc3, hc4⟩
  · refine ⟨none, 0, by rw [h2], by omega, by simp [maxLen], fun j v hj => ?_⟩
    rw [h2, Nat.zero_mul] at h1
    have : cs = [] := List.eq_nil_of_length_eq_zero h1
    subst this
    cases hj
  · refine ⟨_, _, rfl, hc1, hc2, fun j v hj => ⟨g, 0, rfl, lt_of_heap hh, ?_⟩⟩
    have hlt : j < n * k := by
      have := (List.getElem?_eq_some_iff.mp hj).1
      rw [← h1]; exact this
    rw [Nat.zero_add, cell_of hh]
    have : cur[j]? = (List.take (n * k) cur.toList)[j]? := by rw [List.getElem?_take_of_lt hlt]; simp
    rw [this, hc4]
    exact hj
/-- Its block: of the call's own, and of its elements' type. -/
theorem OwnK.lt {t : TypeId} {k : Nat} {w : World} {B n : Nat} {v : Value} {cs : List Value} (h : OwnK t k w B v n cs) {q : Nat} (hq : v.ownBlock = some q) : B ≤ q ∧ q < w.heap.size := World.ownsRow.lt h q hq
theorem OwnK.ne {e t : TypeId} {k : Nat} {w : World} {B n b : Nat} {v : Value} {l : List Value} {cs : Array Value} (h : OwnK e k w B v n l) (hg : Bk w b cs t) (hne : e ≠ t) : v.ownBlock ≠ some b := by
  rcases h.2 with ⟨rfl, _⟩ | ⟨g', cap, cur, rfl, _, hh, _⟩
  · simp [Value.ownBlock]
  · intro he
    have : g' = b := by simpa [Value.ownBlock] using he
    subst this
    unfold Bk at hg
    rw [hg] at hh
    injection hh with hh
    injection hh with _ ht
    exact hne ht.symm

/-- At a step of a region that draws: one element more. -/
theorem step_app_k {P : Program} {ops : Array Oper} {o : Oper} {a : Act} {K : Act → World → Prop} {Q : Exit → Act → World → Prop} {E : Prop} (hgd : o.guard = none) (s x : Operand) (t e : TypeId) (i : TypeInfo) (z : Value) (k bytes : Nat)
    (ho : o.op = .call { callee := .builtin .append, args := #[s, x], argTypes := #[t, t] })
    (ht : P.underlying t = some (.slice e)) (hi : P.info? e = some i) (hz : i.zero = some z) (h1 : i.size = k) (hby : i.bytes = bytes) (hzs : z.cells.size = k) (hk0 : 0 < k) (hb8 : bytes ≤ 64)
    (B : Nat) (w : World) (v : Value) (n : Nat) (cs news : List Value) (g : Nat) (hs : a.eval s = v) (hown : OwnK e k w B v n cs) (hx : a.eval x = .slice (some ⟨g, 0, none⟩) 1 1)
    (hl : news.length = k) (hn : ∀ j u, news[j]? = some u → w.cell? ⟨g, j, none⟩ = some u) (hone : ∀ u ∈ news, u.oneCell' = true) (hlen : n ≤ 1000000) (hbase : B ≤ w.heap.size)
    (h : ∀ v' w', OwnK e k w' B v' (n + 1) (cs ++ news) → w.grownBy w' v.ownBlock → K (a.put o.dst v') w') :
    if Region.wanted o (yielded ops a.tmps) = true then Oper.wp P o a w K Q else E := by
  have hw : Region.wanted o (yielded ops a.tmps) = true := by simp [Region.wanted, hgd]
  rw [if_pos hw]
  obtain ⟨v', w', hrun, h2, h3, _, _⟩ := run_append_own_at (P := P) w B t o.type e i z k bytes ht hi hz h1 hby hzs hk0 v n cs hown ⟨g, 0, none⟩ 1 1 news (by rw [hl, Nat.one_mul])
    (fun j u hj => by rw [WideShapes.add_plain, Nat.zero_add]; exact hn j u hj) hone (by unfold maxLen; omega) (by have : (n + 1) * bytes ≤ (n + 1) * 64 := Nat.mul_le_mul_left _ hb8; omega) hbase
  unfold Oper.wp
  simp [execOp, ho, resolve, invoke, builtin, hs, hx, hrun, Result.andThen]
  exact h v' w' h2 h3
def Own (e : TypeId) (w : World) (B : Nat) (v : Value) (l : List Value) : Prop := w.ownsRow B e 1 v l.length l
theorem Own.rd {t : TypeId} {w : World} {B : Nat} {v : Value} {l : List Value} (h : Own t w B v l) : ∃ a cap, v = .slice a l.length cap ∧ l.length ≤ cap ∧ cap ≤ maxLen ∧ Rd w a l := OwnK.rd (k := 1) h (by decide)
theorem Own.snoc {t : TypeId} {w : World} {B : Nat} {v x : Value} {l : List Value} (h : w.ownsRow B t 1 v (l.length + 1) (l ++ [x])) : Own t w B v (l ++ [x]) := by
  unfold Own
  simpa using h
theorem Own.nil (w : World) (B : Nat) (e : TypeId) : Own e w B (.slice none 0 0) [] := World.ownsRow_nil w B e 1
theorem Own.mono {e : TypeId} {w : World} {B B' : Nat} {v : Value} {l : List Value} (h : Own e w B v l) (hb : B' ≤ B) : Own e w B' v l := by
  refine ⟨h.1, ?_⟩
  rcases h.2 with hn | ⟨g, cap, cur, e, hg, r⟩
  · exact Or.inl hn
  · exact Or.inr ⟨g, cap, cur, e, Nat.le_trans hb hg, r⟩
theorem Own.below {e : TypeId} {w w' : World} {B : Nat} {v : Value} {l : List Value} (h : Own e w B v l) (hb : Below w.heap.size w w') : Own e w' B v l := by
  refine ⟨h.1, ?_⟩
  rcases h.2 with hn | ⟨g, cap, cur, e, hg, hh, r⟩
  · exact Or.inl hn
  · exact Or.inr ⟨g, cap, cur, e, hg, by rw [hb.block g (lt_of_heap hh)]; exact hh, r⟩
/-- Written out. -/
theorem Own.lit {e : TypeId} {w : World} {B : Nat} (xs : Array Value) (hb : B ≤ w.heap.size) (hn : xs.size ≤ 1000) : Own e (w.alloc (.cells xs e)) B (.slice (some ⟨w.heap.size, 0, none⟩) xs.size xs.size) xs.toList := by
  have h := World.ownsRow_lit (e := e) (size := 1) (base := B) w xs xs.size hb (by unfold maxLen; omega) (by simp)
  unfold Own
  simpa using h
theorem own_ne {w : World} {B : Nat} {e t : TypeId} {v : Value} {l : List Value} {g : Nat} {C : Array Value} {fr : Nat × Nat} (h : Own e w B v l) (hg : w.heap[g]? = some (.cells C t fr)) (hne : e ≠ t) : v.ownBlock ≠ some g := by
  rcases h.2 with ⟨rfl, _⟩ | ⟨g', cap, cur, rfl, _, hh, _⟩
  · simp [Value.ownBlock]
  · intro he
    have : g' = g := by simpa [Value.ownBlock] using he
    subst this
    rw [hg] at hh
    injection hh with hh
    injection hh with _ ht
    exact hne ht.symm
theorem own_two {w : World} {B : Nat} {e t : TypeId} {v u : Value} {l k : List Value} (h : Own e w B v l) (h' : Own t w B u k) (hne : t ≠ e) : u.ownBlock = none ∨ u.ownBlock ≠ v.ownBlock := by
  rcases h'.2 with ⟨rfl, _⟩ | ⟨g', cap, cur, rfl, _, hh, _⟩
  · exact Or.inl rfl
  · refine Or.inr fun c => own_ne h hh (fun x => hne x.symm) ?_
    rw [← c]; rfl

/-- What an append of the call's own leaves as it was. -/
def Kept (e : TypeId) (B : Nat) (w w' : World) : Prop :=
  w.heap.size ≤ w'.heap.size ∧ (∀ A, Below B A w → Below B A w') ∧
  (∀ (t : TypeId) (v : Value) (l : List Value), t ≠ e → Own t w B v l → Own t w' B v l) ∧
  (∀ (g : Nat) (C : Array Value) (t : TypeId) (fr : Nat × Nat), t ≠ e → w.heap[g]? = some (Obj.cells C t fr) → w'.heap[g]? = some (Obj.cells C t fr))

theorem wpList_app_one {P : Program} {ops : Array Oper} {rest : List Oper} {o : Oper} {a : Act} {Q : Exit → Act → World → Prop} (hgd : o.guard = none) (s x : Operand) (t e : TypeId) (i : TypeInfo) (z : Value) (bytes : Nat)
    (ho : o.op = .call { callee := .builtin .append, args := #[s, x], argTypes := #[t, t] })
    (ht : P.underlying t = some (.slice e)) (hi : P.info? e = some i) (hz : i.zero = some z) (h1 : i.size = 1) (hby : i.bytes = bytes) (hzs : z.cells.size = 1) (hb8 : bytes ≤ 64)
    (B : Nat) (w : World) (v : Value) (L : List Value) (u : Value) (hs : a.eval s = v) (hown : Own e w B v L) (hx : a.eval x = .slice (some ⟨w.heap.size, 0, none⟩) 1 1) (hu : u.oneCell' = true)
    (hlen : L.length ≤ 1000000) (hbase : B ≤ w.heap.size)
    (h : ∀ v' w', Own e w' B v' (L ++ [u]) → Kept e B w w' → wpList P ops Q rest (a.put o.dst v') w') :
    wpList P ops Q (o :: rest) a (w.alloc (.cells #[u] e)) := by
  refine wpList_append_own _ hgd s x t ho B e i z 1 bytes ht hi hz h1 hby hzs (by decide) v L.length L hs (World.ownsRow.alloc hown _) ⟨w.heap.size, 0, none⟩ 1 1 [u] hx rfl ?_ ?_ ?_ ?_ ?_ ?_
  · intro j y hj
    match j, hj with
    | 0, hj => simp at hj; subst hj; exact (World.cell?_alloc_at _ _ _ _ rfl).trans rfl
  · intro y hy; simp at hy; subst hy; exact hu
  · unfold maxLen; omega
  · have : (L.length + 1) * bytes ≤ (L.length + 1) * 64 := Nat.mul_le_mul_left _ hb8
    omega
  · simp; omega
  · intro v' w' hown' hgrow _
    have hsz : (w.alloc (.cells #[u] e)).heap.size ≤ w'.heap.size := (hgrow.size : _)
    simp at hsz
    refine h v' w' (Own.snoc hown') ⟨by omega, fun A hA => ?_, fun t' v2 l2 hne h2 => ?_, fun g C t' fr hne hg => ?_⟩
    · exact Below.grown (hA.alloc hbase _) hgrow (by simp; omega) (fun q hq => (World.ownsRow.lt hown q hq).1)
    · exact World.ownsRow.kept (World.ownsRow.alloc h2 _) hgrow (own_two hown h2 hne)
    · rw [hgrow.block g (by have := lt_of_heap hg; simp; omega) (fun c => own_ne hown hg (fun x => hne x.symm) c.symm), Below.heap_alloc _ _ _ (lt_of_heap hg)]
      exact hg
theorem own_next {e : TypeId} {w w' : World} {B : Nat} {v : Value} {l : List Value} (h : Own e w B v l) (hb : Below w.heap.size w w') : Own e w' B v l := OwnK.below (k := 1) h hb

/-- Of the elder blocks only this one may have turned. -/
def Gb (b : Nat) (w w' : World) : Prop := w.grownBy w' (some b)
theorem Gb.out {b : Nat} {w w' : World} (h : Gb b w w') : w.grownBy w' (some b) := h
theorem Gb.refl (b : Nat) (w : World) : Gb b w w := ⟨rfl, rfl, rfl, Nat.le_refl _, fun _ _ _ => rfl⟩
theorem Gb.size {b : Nat} {w w' : World} (h : Gb b w w') : w.heap.size ≤ w'.heap.size := h.out.size
theorem Gb.trans {b : Nat} {w v u : World} (h : Gb b w v) (k : Gb b v u) : Gb b w u :=
  ⟨k.out.os.trans h.out.os, k.out.tape.trans h.out.tape, k.out.output.trans h.out.output, Nat.le_trans h.size k.size, fun i hi hne => (k.out.block i (Nat.lt_of_lt_of_le hi h.size) hne).trans (h.out.block i hi hne)⟩
theorem Gb.of {b : Nat} {w v : World} (k : Below w.heap.size w v) : Gb b w v := ⟨k.os, k.tape, k.output, k.size, fun i hi _ => k.block i hi⟩
theorem Gb.below {b : Nat} {w v u : World} (h : Gb b w v) (k : Below v.heap.size v u) : Gb b w u := h.trans (Gb.of k)
theorem Gb.alloc {b : Nat} {w v : World} (h : Gb b w v) (o : Obj) : Gb b w (v.alloc o) := h.below ((Below.refl _ _).alloc (Nat.le_refl _) o)
theorem Gb.drew {b : Nat} {w v : World} (h : Gb b w v) : Gb b w v.drew := h.below (Below.refl _ _).drew
theorem Gb.set {b j : Nat} {w v : World} (h : Gb b w v) (x : Value) : Gb b w (v.setCell ⟨b, j, none⟩ x) :=
  h.trans ⟨rfl, rfl, rfl, by simp, fun k _ hne => Below.heap_setCell v ⟨b, j, none⟩ x k fun e => hne (by rw [e])⟩
theorem Gb.setNew {b c j : Nat} {w v : World} (h : Gb b w v) (hc : w.heap.size ≤ c) (x : Value) : Gb b w (v.setCell ⟨c, j, none⟩ x) :=
  ⟨h.out.os, h.out.tape, h.out.output, by simpa using h.size, fun k hk hne => (Below.heap_setCell v ⟨c, j, none⟩ x k (by show k ≠ c; omega)).trans (h.out.block k hk hne)⟩
theorem below_gb {B b : Nat} {a w w' : World} (h : Below B a w) (hg : Gb b w w') (hb : B ≤ b) (hB : B ≤ w.heap.size) : Below B a w' :=
  h.grown hg.out hB fun k e => by
    injection e with e
    omega
theorem Bk.gb {v v' : World} {b k : Nat} {cs : Array Value} {t : TypeId} (h : Bk v b cs t) (hg : Gb k v v') (hne : ¬ b = k) : Bk v' b cs t := h.kept hg.out fun e => hne (Option.some.inj e).symm
theorem OwnK.gb {e : TypeId} {k : Nat} {w w' : World} {B n b : Nat} {v : Value} {cs : List Value} (h : OwnK e k w B v n cs) (hg : Gb b w w') (hne : v.ownBlock ≠ some b) : OwnK e k w' B v n cs := World.ownsRow.kept h hg.out (Or.inr hne)

theorem Bk.drewN {w : World} {b : Nat} {cs : Array Value} {t : TypeId} (h : Bk w b cs t) (n : Nat) : Bk (w.drewN n) b cs t := by
  unfold Bk
  rw [World.heap_drewN]
  exact h
theorem Gb.drewN {b : Nat} {w v : World} (h : Gb b w v) (n : Nat) : Gb b w (v.drewN n) := h.below ⟨rfl, rfl, rfl, Nat.le_refl _, fun _ _ => rfl⟩

theorem dn {B : Nat} {a w : World} (h : Below B a w) (n : Nat) : Below B a (w.drewN n) := h.trans ⟨rfl, rfl, rfl, Nat.le_refl _, fun _ _ => rfl⟩
end Go.Proofs.Ytpmkpjnhdehnhaa
