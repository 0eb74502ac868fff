/-
  What a call on an object of several blocks may turn: a footprint (which blocks are its), what is kept beside it. No function in it.
-/
import Derived.Test.YtpmkpjnhdehnhaaFBase
namespace Go.Proofs.Ytpmkpjnhdehnhaa
open Go.RowKit

/-- Beside the blocks of F all that was there is as it was; what is of F' is of F, or new. -/
structure Gr (F : Nat → Prop) (w w' : World) (F' : Nat → Prop) : Prop where
  os : w'.os = w.os
  tape : w'.tape = w.tape
  output : w'.output = w.output
  size : w.heap.size ≤ w'.heap.size
  block : ∀ k, k < w.heap.size → ¬ F k → w'.heap[k]? = w.heap[k]?
  news : ∀ k, F' k → F k ∨ w.heap.size ≤ k
theorem Gr.refl (F : Nat → Prop) (w : World) : Gr F w w F := ⟨rfl, rfl, rfl, Nat.le_refl _, fun _ _ _ => rfl, fun _ h => Or.inl h⟩
theorem Gr.trans {F G H : Nat → Prop} {x y z : World} (h : Gr F x y G) (k : Gr G y z H) : Gr F x z H :=
  ⟨k.os.trans h.os, k.tape.trans h.tape, k.output.trans h.output, Nat.le_trans h.size k.size, fun i hi hF => by
    rw [k.block i (Nat.lt_of_lt_of_le hi h.size) (fun hg => (h.news i hg).elim hF fun e => by omega), h.block i hi hF], fun i hi => by
    rcases k.news i hi with hg | hg
    · exact h.news i hg
    · exact Or.inr (Nat.le_trans h.size hg)⟩
theorem Gr.of {F : Nat → Prop} {x y : World} (h : Below x.heap.size x y) : Gr F x y F := ⟨h.os, h.tape, h.output, h.size, fun k hk _ => h.block k hk, fun _ h => Or.inl h⟩
theorem Gr.below {F G : Nat → Prop} {x y z : World} (h : Gr F x y G) (k : Below y.heap.size y z) : Gr F x z G := h.trans (Gr.of k)
theorem Gr.after {F G : Nat → Prop} {x y z : World} (h : Below x.heap.size x y) (k : Gr F y z G) : Gr F x z G := (Gr.of h).trans k
theorem Gr.setNew {F G : Nat → Prop} {x y : World} {k j : Nat} {v : Value} (h : Gr F x y G) (hk : x.heap.size ≤ k) : Gr F x (y.setCell ⟨k, j, none⟩ v) G :=
  ⟨h.os, h.tape, h.output, by simpa using h.size, fun i hi hF => (Below.heap_setCell y ⟨k, j, none⟩ v i (by show i ≠ k; omega)).trans (h.block i hi hF), h.news⟩
/-- Where all of F is new, nothing of what was there turns. -/
theorem Gr.under {F G : Nat → Prop} {u x y : World} {B : Nat} (k : Gr F x y G) (h : Below B u x) (hF : ∀ g, F g → B ≤ g) (hB : B ≤ x.heap.size) : Below B u y :=
  ⟨k.os.trans h.os, k.tape.trans h.tape, k.output.trans h.output, Nat.le_trans h.size k.size, fun i hi => (k.block i (by omega) (fun hf => by have := hF i hf; omega)).trans (h.block i hi)⟩
theorem Gr.up {F G : Nat → Prop} {x y : World} {B : Nat} (k : Gr F x y G) (hF : ∀ g, F g → B ≤ g) (hB : B ≤ x.heap.size) : ∀ g, G g → B ≤ g := fun g hg => by
  rcases k.news g hg with h | h
  · exact hF g h
  · omega
/-- A block that is none of F's stays none of its. -/
theorem Gr.off {F G : Nat → Prop} {x y : World} (k : Gr F x y G) {g : Nat} (hg : ¬ F g) (hlt : g < x.heap.size) : ¬ G g := fun h => by
  rcases k.news g h with h | h
  · exact hg h
  · omega
theorem Bk.gr {F G : Nat → Prop} {x y : World} {b : Nat} {cs : Array Value} {t : TypeId} (h : Bk x b cs t) (k : Gr F x y G) (hb : ¬ F b) : Bk y b cs t := by
  unfold Bk
  rw [k.block b h.lt hb]
  exact h
/-- A row none of whose block is F's. -/
def Off (F : Nat → Prop) (a : Option Addr) : Prop := ∀ x, a = some x → ¬ F x.block
theorem Rd.gr {F G : Nat → Prop} {x y : World} {a : Option Addr} {vs : List Value} (h : Rd x a vs) (k : Gr F x y G) (ho : Off F a) : Rd y a vs := fun j v hj => by
  obtain ⟨g, off, e, hg, hc⟩ := h j v hj
  exact ⟨g, off, e, Nat.lt_of_lt_of_le hg k.size, by rw [World.cell?_of_block (k.block g hg (ho _ e))]; exact hc⟩
theorem OwnK.gr {F G : Nat → Prop} {e : TypeId} {k : Nat} {x y : World} {B n : Nat} {v : Value} {cs : List Value} (h : OwnK e k x B v n cs) (hg : Gr F x y G) (ho : ∀ q, v.ownBlock = some q → ¬ F q) : OwnK e k y B v n cs := by
  refine ⟨h.1, ?_⟩
  rcases h.2 with hn | ⟨g, cap, cur, e1, hB, hh, r⟩
  · exact Or.inl hn
  · refine Or.inr ⟨g, cap, cur, e1, hB, ?_, r⟩
    rw [hg.block g (lt_of_heap hh) (ho g (by rw [e1]; rfl))]
    exact hh
/-- append of one element of k cells, written out in a new block: and where the row lies behind it. -/
theorem wpList_app_at {P : Program} {ops : Array Oper} {rest : List Oper} {o : Oper} {a : Act} {Q : Exit → Act → World → Prop} (hgd : o.guard = none) (s x : Operand) (t e : TypeId) (i : TypeInfo) (z : Value) (k bytes : Nat)
    (ho : o.op = .call { callee := .builtin .append, args := #[s, x], argTypes := #[t, t] })
    (ht : P.underlying t = some (.slice e)) (hi : P.info? e = some i) (hz : i.zero = some z) (h1 : i.size = k) (hby : i.bytes = bytes) (hzs : z.cells.size = k) (hk0 : 0 < k) (hb8 : bytes ≤ 64)
    (B : Nat) (w : World) (v : Value) (n : Nat) (L news : List Value) (hs : a.eval s = v) (hown : OwnK e k w B v n L) (hx : a.eval x = .slice (some ⟨w.heap.size, 0, none⟩) 1 1)
    (hl : news.length = k) (hone : ∀ u ∈ news, u.oneCell' = true) (hlen : n ≤ 1000000) (hbase : B ≤ w.heap.size)
    (h : ∀ v' w', OwnK e k w' B v' (n + 1) (L ++ news) → (w.alloc (.cells news.toArray e)).grownBy w' v.ownBlock → (v'.ownBlock = v.ownBlock ∨ v'.ownBlock = some (w.alloc (.cells news.toArray e)).heap.size) → wpList P ops Q rest (a.put o.dst v') w') :
    wpList P ops Q (o :: rest) a (w.alloc (.cells news.toArray e)) := by
  refine wpList_plain hgd fun K hK => ?_
  obtain ⟨v', w', hrun, h2, h3, _, h5⟩ := run_append_own_at (P := P) (w.alloc (.cells news.toArray e)) B t o.type e i z k bytes ht hi hz h1 hby hzs hk0 v n L (World.ownsRow.alloc hown _) ⟨w.heap.size, 0, none⟩ 1 1 news (by rw [hl, Nat.one_mul])
    (fun j u hj => by rw [WideShapes.add_plain, Nat.zero_add, cell_of (heap_alloc_new w (.cells news.toArray e)) j]; simpa using hj) hone (by unfold maxLen; omega) (by have : (n + 1) * bytes ≤ (n + 1) * 64 := Nat.mul_le_mul_left _ hb8; omega) (by simp; omega)
  unfold Oper.wp
  simp [execOp, ho, resolve, invoke, builtin, hs, hx, hrun, Result.andThen]
  exact hK _ _ (h v' w' h2 h3 h5)
/-- What holds of a row beside a footprint: it is none of its. -/
theorem own_off {w : World} {v v' : Value} {F : Nat → Prop} {M : Nat} (hF : ∀ g, F g → g < M) (ho : ∀ q, v.ownBlock = some q → ¬ F q) (h : v'.ownBlock = v.ownBlock ∨ v'.ownBlock = some w.heap.size) (hM : M ≤ w.heap.size) : ∀ q, v'.ownBlock = some q → ¬ F q := fun q hq hf => by
  rcases h with h | h
  · exact ho q (by rw [← h]; exact hq) hf
  · rw [hq] at h
    injection h with h
    have := hF q hf
    omega
end Go.Proofs.Ytpmkpjnhdehnhaa
