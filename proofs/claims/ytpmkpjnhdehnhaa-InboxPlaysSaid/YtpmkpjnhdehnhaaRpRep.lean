/-
  What a ring is in memory (RingAt), what may turn (Fr), and plain lemmas on them.
-/
import Derived.Test.YtpmkpjnhdehnhaaRpWLen
import Derived.Test.YtpmkpjnhdehnhaaPkB
namespace Go.Proofs.Ytpmkpjnhdehnhaa.RP
open Go.RowKit

/-- All blocks but b and pb are as they were; new ones may be there. -/
structure Fr (b pb : Nat) (w w' : World) : Prop where
  os : w'.os = w.os
  tape : w'.tape = w.tape
  output : w'.output = w.output
  size : w.heap.size ≤ w'.heap.size
  block : ∀ k, k < w.heap.size → k ≠ b → k ≠ pb → w'.heap[k]? = w.heap[k]?

theorem Fr.refl (b pb : Nat) (w : World) : Fr b pb w w := ⟨rfl, rfl, rfl, Nat.le_refl _, fun _ _ _ _ => rfl⟩

theorem Fr.trans {b pb pb' : Nat} {x y z : World} (h : Fr b pb x y) (k : Fr b pb' y z) (e : pb' = pb ∨ x.heap.size ≤ pb') : Fr b pb x z :=
  ⟨k.os.trans h.os, k.tape.trans h.tape, k.output.trans h.output, Nat.le_trans h.size k.size, fun i hi h1 h2 => by
    have := h.size
    rw [k.block i (by omega) h1 (by omega), h.block i hi h1 h2]⟩

theorem Fr.drewN {b pb : Nat} {x y : World} (h : Fr b pb x y) (n : Nat) : Fr b pb x (y.drewN n) := ⟨h.os, h.tape, h.output, h.size, h.block⟩

theorem Fr.ofBelow {b pb B : Nat} {x y : World} (h : Below B x y) (hB : x.heap.size ≤ B) : Fr b pb x y :=
  ⟨h.os, h.tape, h.output, h.size, fun k hk _ _ => h.block k (by omega)⟩

theorem Fr.setCell {b pb : Nat} {x y : World} (h : Fr b pb x y) {a : Addr} (ha : a.block = b ∨ a.block = pb ∨ x.heap.size ≤ a.block) (v : Value) : Fr b pb x (y.setCell a v) :=
  ⟨h.os, h.tape, h.output, by simpa using h.size, fun k hk h1 h2 => by rw [Below.heap_setCell _ _ _ _ (by omega)]; exact h.block k hk h1 h2⟩

theorem Fr.set0 {b pb : Nat} {x y : World} (h : Fr b pb x y) (k : Nat) (v : Value) : Fr b pb x (y.setCell ⟨b, k, none⟩ v) := h.setCell (Or.inl rfl) v
theorem Fr.set1 {b pb : Nat} {x y : World} (h : Fr b pb x y) (k : Nat) (v : Value) : Fr b pb x (y.setCell ⟨pb, k, none⟩ v) := h.setCell (Or.inr (Or.inl rfl)) v

theorem Fr.alloc {b pb : Nat} {x y : World} (h : Fr b pb x y) (o : Obj) : Fr b pb x (y.alloc o) :=
  ⟨h.os, h.tape, h.output, by have := h.size; simp; omega, fun k hk h1 h2 => by have := h.size; rw [Below.heap_alloc _ _ _ (by omega)]; exact h.block k hk h1 h2⟩

theorem Fr.below {b pb B : Nat} {x y : World} (h : Fr b pb x y) (h1 : B ≤ b) (h2 : B ≤ pb) (h3 : B ≤ x.heap.size) : Below B x y :=
  ⟨h.os, h.tape, h.output, h.size, fun k hk => h.block k (by omega) (by omega) (by omega)⟩

def zc : Pk := ⟨0, 0, 0, ⟨#[]⟩⟩
theorem cc_len (l : List Pk) : (l.flatMap pk4).length = l.length * 4 := by
  induction l with
  | nil => rfl
  | cons x l ih => simp [ih]; omega
theorem cc_at : ∀ (l : List Pk) (q : Nat) (x : Pk), l[q]? = some x → (l.flatMap pk4)[q * 4]? = some (.int .i64 x.s) ∧ (l.flatMap pk4)[q * 4 + 1]? = some (.int .i64 x.d) ∧ (l.flatMap pk4)[q * 4 + 2]? = some (.int .i64 x.q) ∧ (l.flatMap pk4)[q * 4 + 3]? = some (.string x.x)
  | [], q, x, h => by simp at h
  | y :: l, 0, x, h => by
    simp at h
    subst h
    simp
  | y :: l, q + 1, x, h => by
    have := cc_at l q x (by simpa using h)
    rw [show (q + 1) * 4 = q * 4 + 1 + 1 + 1 + 1 by omega, show q * 4 + 1 + 1 + 1 + 1 + 1 = (q * 4 + 1) + 1 + 1 + 1 + 1 by omega, show q * 4 + 1 + 1 + 1 + 1 + 2 = (q * 4 + 2) + 1 + 1 + 1 + 1 by omega, show q * 4 + 1 + 1 + 1 + 1 + 3 = (q * 4 + 3) + 1 + 1 + 1 + 1 by omega]
    simpa using this
theorem cc_set : ∀ (l : List Pk) (q : Nat) (x : Pk), ((((l.flatMap pk4).set (q * 4) (.int .i64 x.s)).set (q * 4 + 1) (.int .i64 x.d)).set (q * 4 + 2) (.int .i64 x.q)).set (q * 4 + 3) (.string x.x) = (l.set q x).flatMap pk4
  | [], q, x => by simp
  | y :: l, 0, x => by simp
  | y :: l, q + 1, x => by
    have := cc_set l q x
    rw [show (q + 1) * 4 = q * 4 + 1 + 1 + 1 + 1 by omega]
    simp at this ⊢
    exact this
/-- A ring's state. -/
structure RingSt where
  room : Int
  i : Nat
  o : Nat
  laid : Bool
  lv : Pk
  xs : List Pk

def one (b : Bool) : Nat := if b then 1 else 0

structure RingOk (s : RingSt) : Prop where
  hi : s.i < 4294967296
  ho : s.o < 4294967296
  hlen : (s.o + s.xs.length) % 4294967296 = s.i
  hcap : ((s.xs.length + one s.laid : Nat) : Int) ≤ min (max s.room 1) 4096

def Filled (w : World) (b pb m : Nat) (s : RingSt) (ps : List Pk) : Prop :=
  (∃ k, m = 2 ^ k) ∧ m ≤ 4096 ∧ pb ≠ b ∧ w.heap[pb]? = some (.cells ⟨ps.flatMap pk4⟩ 33 (0, 0)) ∧ ps.length = m ∧ s.xs.length + one s.laid ≤ m ∧
  (∀ j, j < s.xs.length → ps[(s.o + j) % m]? = s.xs[j]?) ∧ (s.laid = true → ps[s.i % m]? = some s.lv)

def pval (pb m : Nat) : Value := if m = 0 then .slice none 0 0 else .slice (some ⟨pb, 0, none⟩) m m

def RingAt (w : World) (b pb m : Nat) (s : RingSt) : Prop :=
  RingOk s ∧ (∃ t, w.heap[b]? = some (.cells #[.int .i64 s.room, pval pb m, .int .u32 (s.i : Int), .int .u32 (s.o : Int), .bool s.laid] t (0, 0))) ∧
  ((m = 0 ∧ pb = b ∧ s.xs = [] ∧ s.laid = false) ∨ ∃ ps, Filled w b pb m s ps)

theorem cell_of {w : World} {b : Nat} {c : Array Value} {t : TypeId} {fr : Nat × Nat} (h : w.heap[b]? = some (.cells c t fr)) (k : Nat) : w.cell? ⟨b, k, none⟩ = c[k]? := by
  simp [World.cell?, h]
theorem frozen_of {w : World} {b : Nat} {c : Array Value} {t : TypeId} (h : w.heap[b]? = some (.cells c t (0, 0))) (k : Nat) : w.frozen? ⟨b, k, none⟩ = false := by
  simp [World.frozen?, h]
theorem lt_of_heap {w : World} {b : Nat} {x : Obj} (h : w.heap[b]? = some x) : b < w.heap.size := by
  rcases Nat.lt_or_ge b w.heap.size with h' | h'
  · exact h'
  · rw [Array.getElem?_eq_none h'] at h; cases h
theorem heap_set {w : World} {b : Nat} {c : Array Value} {t : TypeId} {fr : Nat × Nat} (h : w.heap[b]? = some (.cells c t fr)) (k : Nat) (v : Value) :
    (w.setCell ⟨b, k, none⟩ v).heap[b]? = some (.cells (c.setIfInBounds k v) t fr) := by
  simp [World.setCell, Array.getElem?_modify, h]
theorem heap_set_ne {w : World} {k : Nat} {a : Addr} (v : Value) (h : k ≠ a.block) : (w.setCell a v).heap[k]? = w.heap[k]? := Below.heap_setCell _ _ _ _ h

theorem heap_set2 {w : World} {p : Nat} {l : List Pk} {t : TypeId} {fr : Nat × Nat} (h : w.heap[p]? = some (.cells ⟨l.flatMap pk4⟩ t fr)) (q : Nat) (x : Pk) :
    ((((w.setCell ⟨p, q * 4, none⟩ (.int .i64 x.s)).setCell ⟨p, q * 4 + 1, none⟩ (.int .i64 x.d)).setCell ⟨p, q * 4 + 2, none⟩ (.int .i64 x.q)).setCell ⟨p, q * 4 + 3, none⟩ (.string x.x)).heap[p]? = some (.cells ⟨(l.set q x).flatMap pk4⟩ t fr) := by
  have h1 := heap_set (heap_set (heap_set (heap_set h (q * 4) (.int .i64 x.s)) (q * 4 + 1) (.int .i64 x.d)) (q * 4 + 2) (.int .i64 x.q)) (q * 4 + 3) (.string x.x)
  rw [h1, ← cc_set l q x]
  simp
theorem heap_set2_ne {w : World} {p k : Nat} (q : Nat) (x : Pk) (h : k ≠ p) : ((((w.setCell ⟨p, q * 4, none⟩ (.int .i64 x.s)).setCell ⟨p, q * 4 + 1, none⟩ (.int .i64 x.d)).setCell ⟨p, q * 4 + 2, none⟩ (.int .i64 x.q)).setCell ⟨p, q * 4 + 3, none⟩ (.string x.x)).heap[k]? = w.heap[k]? := by
  rw [heap_set_ne _ h, heap_set_ne _ h, heap_set_ne _ h, heap_set_ne _ h]
theorem RingAt.drewN {w : World} {b pb m : Nat} {s : RingSt} (h : RingAt w b pb m s) (n : Nat) : RingAt (w.drewN n) b pb m s := h
theorem RingAt.lt {w : World} {b pb m : Nat} {s : RingSt} (h : RingAt w b pb m s) : b < w.heap.size ∧ pb < w.heap.size := by
  obtain ⟨_, ⟨t, ht⟩, h3⟩ := h
  have h1 := lt_of_heap ht
  refine ⟨h1, ?_⟩
  rcases h3 with ⟨_, rfl, _⟩ | ⟨ps, _, _, _, h4, _⟩
  · exact h1
  · exact lt_of_heap h4

theorem RingAt.keep {w w' : World} {b pb m : Nat} {s : RingSt} (h : RingAt w b pb m s) (h1 : w'.heap[b]? = w.heap[b]?) (h2 : w'.heap[pb]? = w.heap[pb]?) : RingAt w' b pb m s := by
  obtain ⟨ok, ⟨t, ht⟩, h3⟩ := h
  refine ⟨ok, ⟨t, h1.trans ht⟩, ?_⟩
  rcases h3 with h3 | ⟨ps, a, b, c, d, e⟩
  · exact Or.inl h3
  · exact Or.inr ⟨ps, a, b, c, h2.trans d, e⟩

/-- Another ring's steps leave this one alone. -/
theorem RingAt.frame {w w' : World} {b pb m b2 pb2 : Nat} {s : RingSt} (h : RingAt w b pb m s) (f : Fr b2 pb2 w w') (h1 : b ≠ b2) (h2 : b ≠ pb2) (h3 : pb ≠ b2) (h4 : pb ≠ pb2) : RingAt w' b pb m s :=
  h.keep (f.block _ h.lt.1 h1 h2) (f.block _ h.lt.2 h3 h4)

theorem RingAt.below {w w' : World} {b pb m B : Nat} {s : RingSt} (h : RingAt w b pb m s) (f : Below B w w') (h1 : w.heap.size ≤ B) : RingAt w' b pb m s :=
  h.keep (f.block _ (by have := h.lt.1; omega)) (f.block _ (by have := h.lt.2; omega))

theorem pval_pos {pb m : Nat} (h : 0 < m) : pval pb m = .slice (some ⟨pb, 0, none⟩) m m := by unfold pval; rw [if_neg (by omega)]

section
variable {w : World} {b pb m : Nat} {s : RingSt}

theorem RingAt.len_eq (h : RingOk s) : ((s.i : Int) - s.o) % 4294967296 = s.xs.length := by
  obtain ⟨h1, h2, h3, h4⟩ := h
  omega

theorem ring_len (h : RingAt w b pb m s) : Calls Try.prog 37 #[.pointer (some ⟨b, 0, none⟩)] w fun e w' => e = .returned (.int .i64 s.xs.length) ∧ ∃ n, w' = w.drewN n := by
  obtain ⟨ok, ⟨t, ht⟩, _⟩ := h
  refine (len_any b s.i s.o w (by rw [cell_of ht]; rfl) (by rw [cell_of ht]; rfl)).mono ?_
  rintro e w' ⟨rfl, h⟩
  exact ⟨ret_int (RingAt.len_eq ok), h⟩

def RingSt.free (s : RingSt) : Int := min (max s.room 1) 4096 - ((s.xs.length + one s.laid : Nat) : Int)

theorem ring_room (h : RingAt w b pb m s) : Calls Try.prog 32 #[.pointer (some ⟨b, 0, none⟩)] w fun e w' => e = .returned (.int .i64 s.free) ∧ ∃ n, w' = w.drewN n := by
  obtain ⟨ok, ⟨t, ht⟩, _⟩ := h
  refine (room_any b s.room s.i s.o s.laid w (by rw [cell_of ht]; rfl) (by rw [cell_of ht]; rfl) (by rw [cell_of ht]; rfl) (by rw [cell_of ht]; rfl)).mono ?_
  rintro e w' ⟨rfl, h⟩
  refine ⟨ret_int ?_, h⟩
  rw [RingAt.len_eq ok, RingSt.free, one]
  cases s.laid <;> simp

end
end Go.Proofs.Ytpmkpjnhdehnhaa.RP
