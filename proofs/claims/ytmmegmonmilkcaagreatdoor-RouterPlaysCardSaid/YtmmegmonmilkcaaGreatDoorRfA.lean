/-
  The document's router, by value: its cells; Is.
  The document's router, by value: whole blocks read and written as one; its four rows, where they lie, what a store of one element leaves. No walk in it.
  The document's router, by value: Clone. (Written by gen_rf15k.py.)
  The document's router, by value: a lane among the others, one element set; results. No walk in it.
  The document's router, by value: a call's two blocks (what came in, what is answered), and the copy that is changed. No walk in it.
  The document's router, by value: the truths of who wants a turn, filled one by one; cells of owners and of turns. No walk in it.
  The document's router, by value: what Move wants: three results, who goes. No walk in it.
  Whole blocks read and written at a step of a region that draws its order; an append there. No walk in it.
  The document's router, by value: its four rows while New makes them. No walk in it.
-/
import Derived.Test.YtmmegmonmilkcaaGreatDoorRf14p
import Derived.Test.YtmmegmonmilkcaaGreatDoorRf12
import Derived.Laws.Tables
import Derived.Laws.CopyRow
import Derived.Laws.Rows
import Derived.Laws.MakeOwn
import Derived.Maps.AppendAt

namespace Go.Proofs.YtmmegmonmilkcaaGreatDoor
open Go.RowKit
abbrev zqP (a b : Int) (n : Nat) (c d e f : Int) (g h : Bool) (i : Int) (g1 c1 g2 c2 g3 c3 g4 c4 m : Nat) : Array Value := zq0 a b (n : Int) c d e f g h i (some ⟨g1, 0, none⟩) m c1 (some ⟨g2, 0, none⟩) m c2 (some ⟨g3, 0, none⟩) 5 c3 (some ⟨g4, 0, none⟩) 5 c4
abbrev zqZ : Array Value := zq0 0 0 0 0 0 0 0 false false 0 none 0 0 none 0 0 none 0 0 none 0 0
abbrev rrc (c : G.Cf) (node : Int) (i o g m : Value) : Array Value := #[.int .i64 c.w, .int .i64 c.h, .int .i64 c.l, .int .i64 c.d, .int .i64 c.r, .int .i64 c.i, .int .i64 c.b, .bool c.we, .bool c.ca, .int .i64 node, i, o, g, m]
abbrev rrv (c : G.Cf) (node : Int) (i o g m : Value) : Value := .agg (rrc c node i o g m)
set_option maxRecDepth 100000 in
theorem ris15 (c : G.Cf) (node : Int) (i o g m : Value) (p l : Int) (w : World) : Calls Tryz.prog 43 #[rrv c node i o g m, .int .i64 p, .int .i64 l] w fun e w' => e = .returned (.bool (decide (0 ≤ p ∧ p < 5 ∧ 0 ≤ l ∧ l < c.l))) ∧ Below w.heap.size w w' := by
 obtain ⟨cw, ch, cl, cd, cr, ci, cb, we, ca⟩ := c
 simp only [rrv, rrc] at *
 have Q0 : Hid (Bk (w.alloc (.cells #[.int .i64 cw, .int .i64 ch, .int .i64 cl, .int .i64 cd, .int .i64 cr, .int .i64 ci, .int .i64 cb, .bool we, .bool ca, .int .i64 node, i, o, g, m] 34)) w.heap.size #[.int .i64 cw, .int .i64 ch, .int .i64 cl, .int .i64 cd, .int .i64 cr, .int .i64 ci, .int .i64 cb, .bool we, .bool ca, .int .i64 node, i, o, g, m] 34) := Bk.new _ _ _
 have B0 : Hid (Below w.heap.size w (w.alloc (.cells #[.int .i64 cw, .int .i64 ch, .int .i64 cl, .int .i64 cd, .int .i64 cr, .int .i64 ci, .int .i64 cb, .bool we, .bool ca, .int .i64 node, i, o, g, m] 34))) := (Below.refl _ _).alloc (Nat.le_refl _) _
 have go : ∀ r : Bool, Hid (decide (0 ≤ p ∧ p < 5 ∧ 0 ≤ l ∧ l < cl) = r) → ((¬ 0 ≤ p) ∨ (0 ≤ p ∧ ¬ p < 5) ∨ (0 ≤ p ∧ p < 5 ∧ ¬ 0 ≤ l) ∨ (0 ≤ p ∧ p < 5 ∧ 0 ≤ l ∧ ¬ l < cl) ∨ (0 ≤ p ∧ p < 5 ∧ 0 ≤ l ∧ l < cl)) := fun _ _ => by omega
 rcases go _ (by exact (rfl : decide (0 ≤ p ∧ p < 5 ∧ 0 ≤ l ∧ l < cl) = _)) with h0 | ⟨h0, h1⟩ | ⟨h0, h1, h2⟩ | ⟨h0, h1, h2, h3⟩ | ⟨h0, h1, h2, h3⟩
 all_goals
  first
  | (rw [show decide (0 ≤ p ∧ p < 5 ∧ 0 ≤ l ∧ l < cl) = true from decide_eq_true ⟨h0, h1, h2, h3⟩])
  | (rw [show decide (0 ≤ p ∧ p < 5 ∧ 0 ≤ l ∧ l < cl) = false from decide_eq_false (by omega)])
  clear go
  go_enter Tryz.func43, Tryz.ntmps43
  go_upto_region 1 with fail
  generalize w.alloc (.cells #[.int .i64 cw, .int .i64 ch, .int .i64 cl, .int .i64 cd, .int .i64 cr, .int .i64 ci, .int .i64 cb, .bool we, .bool ca, .int .i64 node, i, o, g, m] 34) = v at *
  have c2 := Q0.out.cell 2
  simp only [sqg, sqh, sqt] at c2
  go_wp2
  go_ret
  exact ⟨rfl, B0.out⟩
end Go.Proofs.YtmmegmonmilkcaaGreatDoor

namespace Go.Proofs.YtmmegmonmilkcaaGreatDoor
open Go.RowKit
theorem wpList_store_bk {P : Program} {ops : Array Oper} {rest : List Oper} {o : Oper} {a : Act} {w : World} {Q : Exit → Act → World → Prop} (hgd : o.guard = none) (ty : TypeId) (x y : Operand) (ho : o.op = .store ty x y)
  (g : Nat) (cells : Array Value) (hx : a.eval x = .pointer (some ⟨g, 0, none⟩)) (hy : a.eval y = .agg cells) {t : TypeId} {old : Array Value} (hg : Bk w g old t) (hi : (P.info? ty).map (·.size) = some cells.size)
  (hold : old.size = cells.size) (h1 : cells.toList.all (·.oneCell') = true)
  (h : ∀ w', Bk w' g cells t → On g w w' → wpList P ops Q rest (a.put o.dst undef) w') : wpList P ops Q (o :: rest) a w := by
 refine wpList_store_row hgd ty x y ho g cells hx hy t old hg hi hold (by rw [← Array.all_toList]; exact h1) (h _ (setRow_heap w g old _ t _ hg) ⟨rfl, rfl, rfl, by simp [World.setRow], fun k hk hne => ?_⟩)
 have hne' : ¬ k = g := fun e => hne (by rw [e])
 simp [World.setRow, Array.getElem?_modify, Ne.symm hne']
theorem wpList_store_part {P : Program} {ops : Array Oper} {rest : List Oper} {o : Oper} {a : Act} {w : World} {Q : Exit → Act → World → Prop} (hgd : o.guard = none) (ty : TypeId) (x y : Operand) (ho : o.op = .store ty x y)
  (g k : Nat) (cells : Array Value) (hx : a.eval x = .pointer (some ⟨g, k, none⟩)) (hy : a.eval y = .agg cells) {t : TypeId} {old : Array Value} (hg : Bk w g old t) (hi : (P.info? ty).map (·.size) = some cells.size)
  (hold : k + cells.size ≤ old.size) (h1 : cells.toList.all (·.oneCell') = true)
  (h : ∀ w', Bk w' g (old.toList.take k ++ cells.toList ++ old.toList.drop (k + cells.size)).toArray t → On g w w' → wpList P ops Q rest (a.put o.dst undef) w') : wpList P ops Q (o :: rest) a w := by
 refine wpList_plain hgd fun K hK => ?_
 have hs := run_storeCells_at P g k t cells.toList 0 old w hg (by simpa using hold) (fun v hv => List.all_eq_true.1 h1 v hv)
 have hr : (storeVar ty ⟨g, k, none⟩ (.agg cells)).run P w = .ok () (w.setRow g (old.toList.take k ++ cells.toList ++ old.toList.drop (k + cells.size)).toArray) := by
  cases hq : P.info? ty with
  | none => simp [hq] at hi
  | some i =>
   have hz : cells.size = i.size := by simp [hq] at hi; omega
   simp only [Nat.add_zero, Array.length_toList] at hs
   rw [hz] at hs ⊢
   simp [storeVar, sizeOf, typeInfo, hq, Value.cells, hz, hs]
 unfold Oper.wp execOp
 simp only [ho, hx, hy, Instr.storeAt, Instr.sureAddr, Sem.run_bind, Sem.run_pure, Result.andThen_ok, hr]
 refine hK _ _ (h _ (setRow_heap w g old _ t _ hg) ⟨rfl, rfl, rfl, by simp [World.setRow], fun q hq hne => ?_⟩)
 have hne' : ¬ q = g := fun e => hne (by rw [e])
 simp [World.setRow, Array.getElem?_modify, Ne.symm hne']
theorem wpList_load_bk {P : Program} {ops : Array Oper} {rest : List Oper} {o : Oper} {a : Act} {w : World} {Q : Exit → Act → World → Prop} (hgd : o.guard = none) (ty : TypeId) (x : Operand) (ho : o.op = .load ty x)
  (g : Nat) (hx : a.eval x = .pointer (some ⟨g, 0, none⟩)) {t : TypeId} {cs : Array Value} (d : TypeDesc) (hg : Bk w g cs t)
  (hu : P.underlying ty = some d) (hd : (match d with | .struct _ | .array _ _ => true | _ => false) = true) (hi : (P.info? ty).map (·.size) = some cs.size)
  (h : wpList P ops Q rest (a.put o.dst (.agg cs)) w) : wpList P ops Q (o :: rest) a w :=
 wpList_load_row hgd ty x ho g hx t cs (0, 0) d hg hu hd hi h
def BR (w : World) (g : Nat) (t : TypeId) (k n c : Nat) (X : List Value) : Prop := ∃ cur, Bk w g cur t ∧ n ≤ c ∧ c ≤ maxLen ∧ X.length = n * k ∧ n * k ≤ cur.size ∧ cur.toList.take (n * k) = X
section
variable {w w' : World} {g k n c q : Nat} {t : TypeId} {X : List Value}
theorem BR.lt (h : BR w g t k n c X) : g < w.heap.size := by obtain ⟨_, h, _⟩ := h; exact h.lt
theorem BR.keep (h : BR w g t k n c X) (e : w'.heap[g]? = w.heap[g]?) : BR w' g t k n c X := by
 obtain ⟨cur, h, r⟩ := h
 exact ⟨cur, by unfold Bk; rw [e]; exact h, r⟩
theorem BR.next (h : BR w g t k n c X) (hb : Below w.heap.size w w') : BR w' g t k n c X := h.keep (hb.block g h.lt)
theorem BR.on (h : BR w g t k n c X) (o : On q w w') (hne : g ≠ q) : BR w' g t k n c X := h.keep (o.out.block g h.lt fun e => hne (Option.some.inj e))
theorem BR.cell (h : BR w g t k n c X) (j : Nat) (hj : j < n * k) : w.cell? ⟨g, j, none⟩ = X[j]? := by
 obtain ⟨cur, h, -, -, -, -, e⟩ := h
 rw [h.cell, ← e, List.getElem?_take_of_lt hj]
 simp
theorem BR.rd (h : BR w g t k n c X) : Rd w (some ⟨g, 0, none⟩) X := fun j v hj => by
 have hl : j < n * k := by
  have h1 := (List.getElem?_eq_some_iff.1 hj).1
  obtain ⟨_, _, _, _, e, _⟩ := h
  omega
 exact ⟨g, 0, rfl, h.lt, by rw [Nat.zero_add, h.cell j hl]; exact hj⟩
theorem BR.len (h : BR w g t k n c X) : X.length = n * k ∧ n ≤ c ∧ c ≤ maxLen := by obtain ⟨_, _, h1, h2, e, _⟩ := h; exact ⟨e, h1, h2⟩
theorem BR.part {vs : List Value} {o : Nat} {cur : Array Value} (_h : Bk w g cur t) (h1 : n ≤ c) (h2 : c ≤ maxLen) (h3 : X.length = n * k) (h4 : n * k ≤ cur.size) (h5 : cur.toList.take (n * k) = X) (ho : o + vs.length ≤ n * k)
  (hw : Bk w' g (cur.toList.take o ++ vs ++ cur.toList.drop (o + vs.length)).toArray t) : BR w' g t k n c (X.take o ++ vs ++ X.drop (o + vs.length)) := by
 refine ⟨_, hw, h1, h2, ?_, ?_, ?_⟩
 ·simp; omega
 ·simp; omega
 ·subst h5
  apply List.ext_getElem?
  intro j
  simp only [List.getElem?_take, List.getElem?_append, List.length_append, List.length_take, Array.length_toList, List.getElem?_drop]
  have e1 : min o cur.size = o := by omega
  have e2 : min o (min (n * k) cur.size) = o := by omega
  rw [e1, e2]
  by_cases a1 : j < n * k
  ·rw [if_pos a1]
   by_cases a2 : j < o + vs.length
   ·rw [if_pos a2, if_pos a2]
    by_cases a3 : j < o
    ·simp only [if_pos a3, if_pos a1]
    ·rw [if_neg a3, if_neg a3]
   ·rw [if_neg a2, if_neg a2, if_pos (by omega)]
  ·rw [if_neg a1, if_neg (by omega), if_neg (by omega)]
end
theorem OwnK.br {e : TypeId} {k : Nat} {w : World} {B n : Nat} {v : Value} {cs : List Value} (h : OwnK e k w B v n cs) (hn : 0 < n) : ∃ g c, v = .slice (some ⟨g, 0, none⟩) n c ∧ B ≤ g ∧ BR w g e k n c cs := by
 obtain ⟨h1, h2⟩ := h
 rcases h2 with ⟨-, h2⟩ | ⟨g, cap, cur, rfl, hg, hh, hc1, hc2, hc3, hc4⟩
 ·omega
 ·exact ⟨g, cap, rfl, hg, cur, hh, hc1, hc2, h1, by rw [hc3]; exact Nat.mul_le_mul_right k hc1, hc4⟩
structure R4 (w : World) (g1 g2 g3 g4 c1 c2 c3 c4 n : Nat) (X1 X2 X3 X4 : List Value) : Prop where
 a1 : BR w g1 100 6 (5 * n) c1 X1
 a2 : BR w g2 3 1 (5 * n) c2 X2
 a3 : BR w g3 103 2 5 c3 X3
 a4 : BR w g4 103 2 5 c4 X4
 n12 : g1 ≠ g2
 n13 : g1 ≠ g3
 n14 : g1 ≠ g4
 n23 : g2 ≠ g3
 n24 : g2 ≠ g4
 n34 : g3 ≠ g4
theorem R4.keep {w w' : World} {g1 g2 g3 g4 c1 c2 c3 c4 n : Nat} {X1 X2 X3 X4 : List Value} (h : R4 w g1 g2 g3 g4 c1 c2 c3 c4 n X1 X2 X3 X4) (k : ∀ g, g = g1 ∨ g = g2 ∨ g = g3 ∨ g = g4 → w'.heap[g]? = w.heap[g]?) : R4 w' g1 g2 g3 g4 c1 c2 c3 c4 n X1 X2 X3 X4 :=
 ⟨h.a1.keep (k _ (Or.inl rfl)), h.a2.keep (k _ (Or.inr (Or.inl rfl))), h.a3.keep (k _ (Or.inr (Or.inr (Or.inl rfl)))), h.a4.keep (k _ (Or.inr (Or.inr (Or.inr rfl)))), h.n12, h.n13, h.n14, h.n23, h.n24, h.n34⟩
theorem R4.lt {w : World} {g1 g2 g3 g4 c1 c2 c3 c4 n : Nat} {X1 X2 X3 X4 : List Value} (h : R4 w g1 g2 g3 g4 c1 c2 c3 c4 n X1 X2 X3 X4) : ∀ g, g = g1 ∨ g = g2 ∨ g = g3 ∨ g = g4 → g < w.heap.size := by
 rintro g (rfl | rfl | rfl | rfl)
 ·exact h.a1.lt
 ·exact h.a2.lt
 ·exact h.a3.lt
 ·exact h.a4.lt
theorem R4.next {w w' : World} {g1 g2 g3 g4 c1 c2 c3 c4 n : Nat} {X1 X2 X3 X4 : List Value} (h : R4 w g1 g2 g3 g4 c1 c2 c3 c4 n X1 X2 X3 X4) (hb : Below w.heap.size w w') : R4 w' g1 g2 g3 g4 c1 c2 c3 c4 n X1 X2 X3 X4 := h.keep fun g hg => hb.block g (h.lt g hg)
theorem flat_at {α : Type} {f : α → List Value} {m : Nat} (hf : ∀ x, (f x).length = m) : ∀ (l : List α) (k j : Nat) (x : α), l[k]? = some x → j < m → (l.flatMap f)[k * m + j]? = (f x)[j]?
 | [], k, j, x, h, _ => by simp at h
 | y :: l, 0, j, x, h, hj => by
  simp at h
  subst h
  rw [List.flatMap_cons, Nat.zero_mul, Nat.zero_add, List.getElem?_append_left (by rw [hf]; exact hj)]
 | y :: l, k + 1, j, x, h, hj => by
  rw [List.flatMap_cons, List.getElem?_append_right (by rw [hf, Nat.add_mul, Nat.one_mul]; omega), hf]
  have := flat_at hf l k j x (by simpa using h) hj
  rw [← this]
  congr 1
  rw [Nat.add_mul, Nat.one_mul]
  omega
theorem flat_len {α : Type} {f : α → List Value} {m : Nat} (hf : ∀ x, (f x).length = m) : ∀ (l : List α), (l.flatMap f).length = l.length * m
 | [] => by simp
 | y :: l => by rw [List.flatMap_cons, List.length_append, hf, flat_len hf l, List.length_cons, Nat.add_mul, Nat.one_mul]; omega
theorem flat_set {α : Type} {f : α → List Value} {m : Nat} (hf : ∀ x, (f x).length = m) : ∀ (l : List α) (k : Nat) (x : α), k < l.length → (l.set k x).flatMap f = (l.flatMap f).take (k * m) ++ f x ++ (l.flatMap f).drop (k * m + m)
 | [], k, x, h => by simp at h
 | y :: l, 0, x, h => by
  rw [List.set_cons_zero, List.flatMap_cons, List.flatMap_cons, Nat.zero_mul, Nat.zero_add, List.take_zero, List.nil_append]
  congr 1
  rw [List.drop_append_of_le_length (by rw [hf]; exact Nat.le_refl _), List.drop_of_length_le (by rw [hf]; exact Nat.le_refl _), List.nil_append]
 | y :: l, k + 1, x, h => by
  rw [List.set_cons_succ, List.flatMap_cons, List.flatMap_cons, flat_set hf l k x (by simpa using h)]
  have e1 : (k + 1) * m = m + k * m := by rw [Nat.add_mul, Nat.one_mul, Nat.add_comm]
  rw [e1, List.take_append, List.drop_append, hf, List.take_of_length_le (l := f y) (by rw [hf]; omega), List.drop_of_length_le (l := f y) (by rw [hf]; omega)]
  simp only [List.nil_append, List.append_assoc]
  congr 1
  rw [show m + k * m - m = k * m by omega, show m + k * m + m - m = k * m + m by omega]
abbrev LW := KS × Option Addr × Nat
def lwc (x : LW) : List Value := (lac x.1 x.2.1 x.2.2).toList
def fcl (N : Nat) (k : Nat) : List Value := (R12.fc N k).toList
def lrow (l : List LW) : List Value := l.flatMap lwc
def frow (N : Nat) (l : List Nat) : List Value := l.flatMap (fcl N)
theorem lrow_one (l : List LW) : ∀ u ∈ lrow l, u.oneCell' = true := by
 intro u hu
 obtain ⟨x, _, hx⟩ := List.mem_flatMap.1 hu
 simp [lwc] at hx
 rcases hx with rfl | rfl | rfl | rfl | rfl | rfl <;> rfl
theorem frow_one (N : Nat) (l : List Nat) : ∀ u ∈ frow N l, u.oneCell' = true := by
 intro u hu
 obtain ⟨x, _, hx⟩ := List.mem_flatMap.1 hu
 simp [fcl] at hx
 rcases hx with rfl | rfl <;> rfl
theorem vi_one15 (l : List Int) : ∀ u ∈ vi l, u.oneCell' = true := by
 intro u hu
 obtain ⟨n, _, rfl⟩ := List.mem_map.1 hu
 rfl
theorem lwc_len (x : LW) : (lwc x).length = 6 := rfl
theorem fcl_len (N k : Nat) : (fcl N k).length = 2 := rfl
theorem fr_eq (N : Nat) (l : List Nat) : frow N l = l.flatMap (fcl N) := rfl
def DR (w : World) (c : G.Cf) (S : RS) (v : Value) (D : Nat → Prop) : Prop :=
 ∃ (L : List LW) (g1 g2 g3 g4 c1 c2 c3 c4 : Nat), v = rrv c S.node (.slice (some ⟨g1, 0, none⟩) (5 * S.n) c1) (.slice (some ⟨g2, 0, none⟩) (5 * S.n) c2) (.slice (some ⟨g3, 0, none⟩) 5 c3) (.slice (some ⟨g4, 0, none⟩) 5 c4) ∧
  L.map (·.1) = S.ins ∧ R4 w g1 g2 g3 g4 c1 c2 c3 c4 S.n (lrow L) (vi S.own) (frow S.n S.gv) (frow (5 * S.n) S.mv) ∧ (D g1 ∧ D g2 ∧ D g3 ∧ D g4) ∧
  ∀ x ∈ L, LaR w x.1 x.2.1 x.2.2 ∧ (x.1.ws ≠ [] → ∀ a, x.2.1 = some a → D a.block)
theorem DR.next {w w' : World} {c : G.Cf} {S : RS} {v : Value} {D : Nat → Prop} (h : DR w c S v D) (hb : Below w.heap.size w w') : DR w' c S v D := by
 obtain ⟨L, g1, g2, g3, g4, c1, c2, c3, c4, e, e1, r, d, x⟩ := h
 exact ⟨L, g1, g2, g3, g4, c1, c2, c3, c4, e, e1, r.next hb, d, fun y hy => ⟨(x y hy).1.next hb, (x y hy).2⟩⟩
theorem DR.mono {w : World} {c : G.Cf} {S : RS} {v : Value} {D D' : Nat → Prop} (h : DR w c S v D) (hd : ∀ g, g < w.heap.size → D g → D' g) : DR w c S v D' := by
 obtain ⟨L, g1, g2, g3, g4, c1, c2, c3, c4, e, e1, r, ⟨d1, d2, d3, d4⟩, x⟩ := h
 refine ⟨L, g1, g2, g3, g4, c1, c2, c3, c4, e, e1, r, ⟨hd _ r.a1.lt d1, hd _ r.a2.lt d2, hd _ r.a3.lt d3, hd _ r.a4.lt d4⟩, fun y hy => ⟨(x y hy).1, fun hw a ha => hd _ ?_ ((x y hy).2 hw a ha)⟩⟩
 cases hws : y.1.ws with
 | nil => exact absurd hws hw
 | cons z t =>
  obtain ⟨g, o, e, hg, -⟩ := (x y hy).1.rd 0 (.int .u64 (z : Int)) (by rw [hws]; rfl)
  rw [ha] at e
  cases e
  exact hg
theorem DR.gr {w w' : World} {c : G.Cf} {S : RS} {v : Value} {F F' : Nat → Prop} (h : DR w c S v (fun g => ¬ F g)) (k : Gr F w w' F') : DR w' c S v (fun g => ¬ F' g) := by
 have h2 : DR w c S v (fun g => ¬ F g ∧ g < w.heap.size) := h.mono fun g hg hd => ⟨hd, hg⟩
 obtain ⟨L, g1, g2, g3, g4, c1, c2, c3, c4, e, e1, r, ⟨d1, d2, d3, d4⟩, x⟩ := h2
 have off : ∀ g, (¬ F g ∧ g < w.heap.size) → ¬ F' g := fun g hg => k.off hg.1 hg.2
 refine ⟨L, g1, g2, g3, g4, c1, c2, c3, c4, e, e1, r.keep ?_, ⟨off _ d1, off _ d2, off _ d3, off _ d4⟩, fun y hy => ⟨⟨?_, (x y hy).1.nil, (x y hy).1.le, (x y hy).1.mx⟩, fun hw a ha => off _ ((x y hy).2 hw a ha)⟩⟩
 ·rintro g (rfl | rfl | rfl | rfl)
  ·exact k.block _ d1.2 d1.1
  ·exact k.block _ d2.2 d2.1
  ·exact k.block _ d3.2 d3.1
  ·exact k.block _ d4.2 d4.1
 ·by_cases hw : y.1.ws = []
  ·rw [hw]
   exact fun j u hj => by simp [vw] at hj
  ·exact (x y hy).1.rd.gr k fun a ha => ((x y hy).2 hw a ha).1
end Go.Proofs.YtmmegmonmilkcaaGreatDoor

namespace Go.Proofs.YtmmegmonmilkcaaGreatDoor
open Go.RowKit
theorem three_start (w : World) (cs ds : Array Value) (t : TypeId) : Bk (((w.alloc (.cells cs t)).alloc (.cells ds t)).alloc (.cells ds t)) w.heap.size cs t ∧ Bk (((w.alloc (.cells cs t)).alloc (.cells ds t)).alloc (.cells ds t)) (w.heap.size + 1) ds t ∧ Bk (((w.alloc (.cells cs t)).alloc (.cells ds t)).alloc (.cells ds t)) (w.heap.size + 1 + 1) ds t ∧ Below w.heap.size w (((w.alloc (.cells cs t)).alloc (.cells ds t)).alloc (.cells ds t)) := by
 have s1 : (w.alloc (.cells cs t)).heap.size = w.heap.size + 1 := by simp
 have s2 : ((w.alloc (.cells cs t)).alloc (.cells ds t)).heap.size = w.heap.size + 1 + 1 := by simp
 refine ⟨((Bk.new w _ _).alloc _).alloc _, ?_, ?_, (((Below.refl _ _).alloc (Nat.le_refl _) _).alloc (by omega) _).alloc (by omega) _⟩
 ·rw [← s1]; exact (Bk.new _ _ _).alloc _
 ·rw [← s2]; exact Bk.new _ _ _
theorem app_br {e : TypeId} {k : Nat} {w w' : World} {v : Value} {m : Nat} {ys : List Value} (o : OwnK e k w' w.heap.size v (0 + m) ([] ++ ys)) (g : w.grownBy w' (Value.slice none 0 0).ownBlock) (hm : 0 < m) :
  ∃ q d, v = .slice (some ⟨q, 0, none⟩) m d ∧ w.heap.size ≤ q ∧ BR w' q e k m d ys ∧ Below w.heap.size w w' := by
 rw [Nat.zero_add, List.nil_append] at o
 obtain ⟨q, d, h1, h2, h3⟩ := o.br hm
 exact ⟨q, d, h1, h2, h3, ⟨g.os, g.tape, g.output, g.size, fun i hi => g.block i hi (fun c => by simp [Value.ownBlock] at c)⟩⟩
theorem eight_n {n : Nat} (h : n ≤ 8) : 0 + 5 * n ≤ 1000000 := by omega
set_option maxRecDepth 100000 in
set_option maxHeartbeats 8000000 in
theorem rclone15 (c : G.Cf) (node : Int) {w : World} {g1 g2 g3 g4 c1 c2 c3 c4 n : Nat} {X1 X2 X3 X4 : List Value} (r : R4 w g1 g2 g3 g4 c1 c2 c3 c4 n X1 X2 X3 X4) (h1 : 1 ≤ n) (h8 : n ≤ 8) (u1 : ∀ u ∈ X1, u.oneCell' = true) (u2 : ∀ u ∈ X2, u.oneCell' = true) (u3 : ∀ u ∈ X3, u.oneCell' = true) (u4 : ∀ u ∈ X4, u.oneCell' = true) :
  Calls Tryz.prog 44 #[rrv c node (.slice (some ⟨g1, 0, none⟩) (5 * n) c1) (.slice (some ⟨g2, 0, none⟩) (5 * n) c2) (.slice (some ⟨g3, 0, none⟩) 5 c3) (.slice (some ⟨g4, 0, none⟩) 5 c4)] w fun e w' => ∃ k1 k2 k3 k4 d1 d2 d3 d4, e = .returned (rrv c node (.slice (some ⟨k1, 0, none⟩) (5 * n) d1) (.slice (some ⟨k2, 0, none⟩) (5 * n) d2) (.slice (some ⟨k3, 0, none⟩) 5 d3) (.slice (some ⟨k4, 0, none⟩) 5 d4)) ∧ R4 w' k1 k2 k3 k4 d1 d2 d3 d4 n X1 X2 X3 X4 ∧ (w.heap.size ≤ k1 ∧ w.heap.size ≤ k2 ∧ w.heap.size ≤ k3 ∧ w.heap.size ≤ k4) ∧ Below w.heap.size w w' := by
 obtain ⟨cw, ch, cl, cd, cr, ci, cb, we, ca⟩ := c
 simp only [rrv, rrc] at *
 obtain ⟨p0, q0, o0, b0⟩ := three_start w (zq0 cw ch cl cd cr ci cb we ca node (some ⟨g1, 0, none⟩) (5 * n) c1 (some ⟨g2, 0, none⟩) (5 * n) c2 (some ⟨g3, 0, none⟩) 5 c3 (some ⟨g4, 0, none⟩) 5 c4) zqZ 34
 have P0 : Hid (Bk (((w.alloc (.cells (zq0 cw ch cl cd cr ci cb we ca node (some ⟨g1, 0, none⟩) (5 * n) c1 (some ⟨g2, 0, none⟩) (5 * n) c2 (some ⟨g3, 0, none⟩) 5 c3 (some ⟨g4, 0, none⟩) 5 c4) 34)).alloc (.cells zqZ 34)).alloc (.cells zqZ 34)) w.heap.size (zq0 cw ch cl cd cr ci cb we ca node (some ⟨g1, 0, none⟩) (5 * n) c1 (some ⟨g2, 0, none⟩) (5 * n) c2 (some ⟨g3, 0, none⟩) 5 c3 (some ⟨g4, 0, none⟩) 5 c4) 34) := p0
 have Q0 : Hid (Bk (((w.alloc (.cells (zq0 cw ch cl cd cr ci cb we ca node (some ⟨g1, 0, none⟩) (5 * n) c1 (some ⟨g2, 0, none⟩) (5 * n) c2 (some ⟨g3, 0, none⟩) 5 c3 (some ⟨g4, 0, none⟩) 5 c4) 34)).alloc (.cells zqZ 34)).alloc (.cells zqZ 34)) (w.heap.size + 1) zqZ 34) := q0
 have O0 : Hid (Bk (((w.alloc (.cells (zq0 cw ch cl cd cr ci cb we ca node (some ⟨g1, 0, none⟩) (5 * n) c1 (some ⟨g2, 0, none⟩) (5 * n) c2 (some ⟨g3, 0, none⟩) 5 c3 (some ⟨g4, 0, none⟩) 5 c4) 34)).alloc (.cells zqZ 34)).alloc (.cells zqZ 34)) (w.heap.size + 1 + 1) zqZ 34) := o0
 have B0 : Hid (Below w.heap.size w (((w.alloc (.cells (zq0 cw ch cl cd cr ci cb we ca node (some ⟨g1, 0, none⟩) (5 * n) c1 (some ⟨g2, 0, none⟩) (5 * n) c2 (some ⟨g3, 0, none⟩) 5 c3 (some ⟨g4, 0, none⟩) 5 c4) 34)).alloc (.cells zqZ 34)).alloc (.cells zqZ 34))) := b0
 have R0 : Hid (R4 (((w.alloc (.cells (zq0 cw ch cl cd cr ci cb we ca node (some ⟨g1, 0, none⟩) (5 * n) c1 (some ⟨g2, 0, none⟩) (5 * n) c2 (some ⟨g3, 0, none⟩) 5 c3 (some ⟨g4, 0, none⟩) 5 c4) 34)).alloc (.cells zqZ 34)).alloc (.cells zqZ 34)) g1 g2 g3 g4 c1 c2 c3 c4 n X1 X2 X3 X4) := r.next b0
 have HGB : Hid (∀ g, g = g1 ∨ g = g2 ∨ g = g3 ∨ g = g4 → g < w.heap.size) := show _ from r.lt
 clear r p0 q0 o0 b0
 obtain ⟨b, hb⟩ : ∃ b, w.heap.size = b := ⟨_, rfl⟩
 have HB : Hid (w.heap.size = b) := hb
 go_enter Tryz.func44, Tryz.ntmps44
 go_upto_region 2 with fail
 generalize (((w.alloc (.cells (zq0 cw ch cl cd cr ci cb we ca node (some ⟨g1, 0, none⟩) (5 * n) c1 (some ⟨g2, 0, none⟩) (5 * n) c2 (some ⟨g3, 0, none⟩) 5 c3 (some ⟨g4, 0, none⟩) 5 c4) 34)).alloc (.cells zqZ 34)).alloc (.cells zqZ 34)) = v at *
 have HB0 : Hid (Below w.heap.size w v) := B0.out
 rw [hb] at P0 Q0 O0 HGB
 clear hb B0
 have y0 := (P0.out.cell 0).trans rfl
 have y1 := (P0.out.cell 1).trans rfl
 have y2 := (P0.out.cell 2).trans rfl
 have y3 := (P0.out.cell 3).trans rfl
 have y4 := (P0.out.cell 4).trans rfl
 have y5 := (P0.out.cell 5).trans rfl
 have y6 := (P0.out.cell 6).trans rfl
 have y7 := (P0.out.cell 7).trans rfl
 have y8 := (P0.out.cell 8).trans rfl
 go_upto_region 3 with (refine wpList_store_part rfl 23 (.tmp 6) (.tmp 5) rfl (b + 1 + 1) 0 (zq5 cw ch cl cd cr ci cb we ca) rfl rfl O0.out (by kernel_rfl) (show (0 : Nat) + 9 ≤ 14 from by decide) rfl ?_; intro v1 ob1 on1)
 have O1 : Hid (Bk v1 (b + 1 + 1) (zq0 cw ch cl cd cr ci cb we ca 0 none 0 0 none 0 0 none 0 0 none 0 0) 34) := ob1
 have n0 : b ≠ b + 1 + 1 := by omega
 have n1 : b + 1 ≠ b + 1 + 1 := by omega
 have P1 : Hid (Bk v1 b (zq0 cw ch cl cd cr ci cb we ca node (some ⟨g1, 0, none⟩) (5 * n) c1 (some ⟨g2, 0, none⟩) (5 * n) c2 (some ⟨g3, 0, none⟩) 5 c3 (some ⟨g4, 0, none⟩) 5 c4) 34) := P0.out.on on1 n0
 have Q1 : Hid (Bk v1 (b + 1) zqZ 34) := Q0.out.on on1 n1
 have HBV : Hid (b + 1 + 1 < v.heap.size) := O0.out.lt
 have RR1 : Hid (R4 v1 g1 g2 g3 g4 c1 c2 c3 c4 n X1 X2 X3 X4) := R0.out.keep fun g hg => on1.out.block g (R0.out.lt g hg) fun e => by
  have e9 := (Option.some.inj e)
  have := HGB.out g hg
  omega
 have B1 : Hid (Below b w v1 ∧ b + 1 + 1 < v1.heap.size) := show _ ∧ _ from ⟨by
  have h0 := HB0.out
  rw [HB.out] at h0
  exact h0.grown on1 (by have := HBV.out; omega) (fun q hq => by cases hq; omega), Nat.lt_of_lt_of_le HBV.out on1.size⟩
 clear P0 Q0 O0 R0 ob1 on1 y0 y1 y2 y3 y4 y5 y6 y7 y8 HB0 HBV
 have y9 := (P1.out.cell 9).trans rfl
 have z9 := (O1.out.cell 9).trans rfl
 have f9 := O1.out.free 9
 go_upto_region 4 with fail
 have O2 : Hid (Bk (v1.setCell ⟨b + 1 + 1, 9, none⟩ (.int .i64 node)) (b + 1 + 1) (zq0 cw ch cl cd cr ci cb we ca node none 0 0 none 0 0 none 0 0 none 0 0) 34) := show Bk _ _ _ _ from by
  have := O1.out.set 9 (.int .i64 node)
  simpa using this
 have P2 : Hid (Bk (v1.setCell ⟨b + 1 + 1, 9, none⟩ (.int .i64 node)) b (zq0 cw ch cl cd cr ci cb we ca node (some ⟨g1, 0, none⟩) (5 * n) c1 (some ⟨g2, 0, none⟩) (5 * n) c2 (some ⟨g3, 0, none⟩) 5 c3 (some ⟨g4, 0, none⟩) 5 c4) 34) := P1.out.far n0
 have Q2 : Hid (Bk (v1.setCell ⟨b + 1 + 1, 9, none⟩ (.int .i64 node)) (b + 1) zqZ 34) := Q1.out.far n1
 have RR2 : Hid (R4 (v1.setCell ⟨b + 1 + 1, 9, none⟩ (.int .i64 node)) g1 g2 g3 g4 c1 c2 c3 c4 n X1 X2 X3 X4) := RR1.out.keep fun g hg => Below.heap_setCell v1 ⟨b + 1 + 1, 9, none⟩ _ g (by have := HGB.out g hg; show g ≠ b + 1 + 1; omega)
 have B2 : Hid (Below b w (v1.setCell ⟨b + 1 + 1, 9, none⟩ (.int .i64 node)) ∧ b + 1 + 1 < (v1.setCell ⟨b + 1 + 1, 9, none⟩ (.int .i64 node)).heap.size) := show _ ∧ _ from ⟨B1.out.1.setCell (by show b ≤ b + 1 + 1; omega) _, by simpa using B1.out.2⟩
 clear O1 P1 Q1 RR1 B1 y9 z9 f9
 generalize v1.setCell ⟨b + 1 + 1, 9, none⟩ (.int .i64 node) = wu0 at *
 have y1 := (P2.out.cell 10).trans rfl
 have z1 := (O2.out.cell 10).trans rfl
 have own1 := OwnK.nil wu0 wu0.heap.size 100 6
 have hm1 := RR2.out.a1.len.1
 have RD1 := RR2.out.a1.rd
 have hs1 := B2.out.2
 obtain ⟨i1, ki1, hz01, hz11, hz21⟩ := info_parts (P := Tryz.prog) (e := 100) (z := .agg (zq2 0 0 0 0 none 0 0 false)) (size := 6) (bytes := 64) (by kernel_rfl)
 have hll1 : 0 + (5 * n) ≤ 1000000 := eight_n h8
 have hpp1 : 0 < (5 * n) := by omega
 go_upto_region 5 with (at_builtin; go_loud (refine wpList_app_srck rfl (.tmp 11) (.tmp 13) 30 100 i1 (.agg (zq2 0 0 0 0 none 0 0 false)) 6 64 rfl Tryz.underlying30 ki1 hz01 hz11 hz21 rfl (by decide) (by decide) wu0.heap.size wu0 (.slice none 0 0) 0 [] rfl own1 (some ⟨g1, 0, none⟩) (5 * n) c1 rfl (fun c9 => by cases c9) X1 hm1 RD1 u1 hll1 (Nat.le_refl _) ?_; intro vv1 x1 oo1 gg1; obtain ⟨k1, d1, rfl, hk1, br1, bl1⟩ := app_br oo1 gg1 hpp1; have zz1 := ((O2.out.next bl1).cell 10).trans rfl; have ff1 := (O2.out.next bl1).free 10))
 have O3 : Hid (Bk (x1.setCell ⟨b + 1 + 1, 10, none⟩ (.slice (some ⟨k1, 0, none⟩) (5 * n) d1)) (b + 1 + 1) (zq0 cw ch cl cd cr ci cb we ca node (some ⟨k1, 0, none⟩) (5 * n) d1 none 0 0 none 0 0 none 0 0) 34) := show Bk _ _ _ _ from by
  have := (O2.out.next bl1).set 10 (.slice (some ⟨k1, 0, none⟩) (5 * n) d1)
  simpa using this
 have P3 : Hid (Bk (x1.setCell ⟨b + 1 + 1, 10, none⟩ (.slice (some ⟨k1, 0, none⟩) (5 * n) d1)) b (zq0 cw ch cl cd cr ci cb we ca node (some ⟨g1, 0, none⟩) (5 * n) c1 (some ⟨g2, 0, none⟩) (5 * n) c2 (some ⟨g3, 0, none⟩) 5 c3 (some ⟨g4, 0, none⟩) 5 c4) 34) := (P2.out.next bl1).far n0
 have Q3 : Hid (Bk (x1.setCell ⟨b + 1 + 1, 10, none⟩ (.slice (some ⟨k1, 0, none⟩) (5 * n) d1)) (b + 1) zqZ 34) := (Q2.out.next bl1).far n1
 have RR3 : Hid (R4 (x1.setCell ⟨b + 1 + 1, 10, none⟩ (.slice (some ⟨k1, 0, none⟩) (5 * n) d1)) g1 g2 g3 g4 c1 c2 c3 c4 n X1 X2 X3 X4) := (RR2.out.next bl1).keep fun g hg => Below.heap_setCell x1 ⟨b + 1 + 1, 10, none⟩ _ g (by have := HGB.out g hg; show g ≠ b + 1 + 1; omega)
 have B3 : Hid (Below b w (x1.setCell ⟨b + 1 + 1, 10, none⟩ (.slice (some ⟨k1, 0, none⟩) (5 * n) d1)) ∧ b + 1 + 1 < (x1.setCell ⟨b + 1 + 1, 10, none⟩ (.slice (some ⟨k1, 0, none⟩) (5 * n) d1)).heap.size) := show _ ∧ _ from ⟨(B2.out.1.trans (bl1.mono (by omega))).setCell (by show b ≤ b + 1 + 1; omega) _, by simp; exact Nat.lt_of_lt_of_le B2.out.2 bl1.size⟩
 have E1 : Hid (BR (x1.setCell ⟨b + 1 + 1, 10, none⟩ (.slice (some ⟨k1, 0, none⟩) (5 * n) d1)) k1 100 6 (5 * n) d1 X1 ∧ b + 1 + 1 < k1) := show _ ∧ _ from ⟨br1.keep (Below.heap_setCell x1 ⟨b + 1 + 1, 10, none⟩ _ k1 (by show k1 ≠ b + 1 + 1; omega)), by omega⟩
 have ne1 : Hid (wu0.heap.size ≤ k1) := hk1
 clear O2 P2 Q2 RR2 B2 y1 z1 own1 hm1 RD1 hs1 ki1 hz01 hz11 hz21 hll1 hpp1 oo1 gg1 br1 bl1 zz1 ff1 ne1 hk1
 generalize (x1.setCell ⟨b + 1 + 1, 10, none⟩ (.slice (some ⟨k1, 0, none⟩) (5 * n) d1)) = wu1 at *
 have PL1 : Hid (k1 < wu1.heap.size) := E1.out.1.lt
 have y2 := (P3.out.cell 11).trans rfl
 have z2 := (O3.out.cell 11).trans rfl
 have own2 := OwnK.nil wu1 wu1.heap.size 3 1
 have hm2 := RR3.out.a2.len.1
 have RD2 := RR3.out.a2.rd
 have hs2 := B3.out.2
 obtain ⟨i2, ki2, hz02, hz12, hz22⟩ := info_parts (P := Tryz.prog) (e := 3) (z := .int .i64 0) (size := 1) (bytes := 8) (by kernel_rfl)
 have hll2 : 0 + (5 * n) ≤ 1000000 := eight_n h8
 have hpp2 : 0 < (5 * n) := by omega
 go_upto_region 6 with (at_builtin; go_loud (refine wpList_app_srck rfl (.tmp 17) (.tmp 19) 31 3 i2 (.int .i64 0) 1 8 rfl Tryz.underlying31 ki2 hz02 hz12 hz22 rfl (by decide) (by decide) wu1.heap.size wu1 (.slice none 0 0) 0 [] rfl own2 (some ⟨g2, 0, none⟩) (5 * n) c2 rfl (fun c9 => by cases c9) X2 hm2 RD2 u2 hll2 (Nat.le_refl _) ?_; intro vv2 x2 oo2 gg2; obtain ⟨k2, d2, rfl, hk2, br2, bl2⟩ := app_br oo2 gg2 hpp2; have zz2 := ((O3.out.next bl2).cell 11).trans rfl; have ff2 := (O3.out.next bl2).free 11))
 have O4 : Hid (Bk (x2.setCell ⟨b + 1 + 1, 11, none⟩ (.slice (some ⟨k2, 0, none⟩) (5 * n) d2)) (b + 1 + 1) (zq0 cw ch cl cd cr ci cb we ca node (some ⟨k1, 0, none⟩) (5 * n) d1 (some ⟨k2, 0, none⟩) (5 * n) d2 none 0 0 none 0 0) 34) := show Bk _ _ _ _ from by
  have := (O3.out.next bl2).set 11 (.slice (some ⟨k2, 0, none⟩) (5 * n) d2)
  simpa using this
 have P4 : Hid (Bk (x2.setCell ⟨b + 1 + 1, 11, none⟩ (.slice (some ⟨k2, 0, none⟩) (5 * n) d2)) b (zq0 cw ch cl cd cr ci cb we ca node (some ⟨g1, 0, none⟩) (5 * n) c1 (some ⟨g2, 0, none⟩) (5 * n) c2 (some ⟨g3, 0, none⟩) 5 c3 (some ⟨g4, 0, none⟩) 5 c4) 34) := (P3.out.next bl2).far n0
 have Q4 : Hid (Bk (x2.setCell ⟨b + 1 + 1, 11, none⟩ (.slice (some ⟨k2, 0, none⟩) (5 * n) d2)) (b + 1) zqZ 34) := (Q3.out.next bl2).far n1
 have RR4 : Hid (R4 (x2.setCell ⟨b + 1 + 1, 11, none⟩ (.slice (some ⟨k2, 0, none⟩) (5 * n) d2)) g1 g2 g3 g4 c1 c2 c3 c4 n X1 X2 X3 X4) := (RR3.out.next bl2).keep fun g hg => Below.heap_setCell x2 ⟨b + 1 + 1, 11, none⟩ _ g (by have := HGB.out g hg; show g ≠ b + 1 + 1; omega)
 have B4 : Hid (Below b w (x2.setCell ⟨b + 1 + 1, 11, none⟩ (.slice (some ⟨k2, 0, none⟩) (5 * n) d2)) ∧ b + 1 + 1 < (x2.setCell ⟨b + 1 + 1, 11, none⟩ (.slice (some ⟨k2, 0, none⟩) (5 * n) d2)).heap.size) := show _ ∧ _ from ⟨(B3.out.1.trans (bl2.mono (by omega))).setCell (by show b ≤ b + 1 + 1; omega) _, by simp; exact Nat.lt_of_lt_of_le B3.out.2 bl2.size⟩
 have E2 : Hid (BR (x2.setCell ⟨b + 1 + 1, 11, none⟩ (.slice (some ⟨k2, 0, none⟩) (5 * n) d2)) k2 3 1 (5 * n) d2 X2 ∧ b + 1 + 1 < k2) := show _ ∧ _ from ⟨br2.keep (Below.heap_setCell x2 ⟨b + 1 + 1, 11, none⟩ _ k2 (by show k2 ≠ b + 1 + 1; omega)), by omega⟩
 have ne2 : Hid (wu1.heap.size ≤ k2) := hk2
 have E1 : Hid (BR (x2.setCell ⟨b + 1 + 1, 11, none⟩ (.slice (some ⟨k2, 0, none⟩) (5 * n) d2)) k1 100 6 (5 * n) d1 X1 ∧ b + 1 + 1 < k1) := show _ ∧ _ from ⟨(E1.out.1.next bl2).keep (Below.heap_setCell x2 ⟨b + 1 + 1, 11, none⟩ _ k1 (by have := E1.out.2; show k1 ≠ b + 1 + 1; omega)), E1.out.2⟩
 have nn12 : Hid (k1 ≠ k2) := show _ ≠ _ from fun e9 => by have := PL1.out; omega
 clear O3 P3 Q3 RR3 B3 y2 z2 own2 hm2 RD2 hs2 ki2 hz02 hz12 hz22 hll2 hpp2 oo2 gg2 br2 bl2 zz2 ff2 ne2 hk2
 generalize (x2.setCell ⟨b + 1 + 1, 11, none⟩ (.slice (some ⟨k2, 0, none⟩) (5 * n) d2)) = wu2 at *
 have PL1 : Hid (k1 < wu2.heap.size) := E1.out.1.lt
 have PL2 : Hid (k2 < wu2.heap.size) := E2.out.1.lt
 have y3 := (P4.out.cell 12).trans rfl
 have z3 := (O4.out.cell 12).trans rfl
 have own3 := OwnK.nil wu2 wu2.heap.size 103 2
 have hm3 := RR4.out.a3.len.1
 have RD3 := RR4.out.a3.rd
 have hs3 := B4.out.2
 obtain ⟨i3, ki3, hz03, hz13, hz23⟩ := info_parts (P := Tryz.prog) (e := 103) (z := .agg #[.int .i64 0, .int .i64 0]) (size := 2) (bytes := 16) (by kernel_rfl)
 have hll3 : 0 + 5 ≤ 1000000 := by decide
 have hpp3 : 0 < 5 := by decide
 go_upto_region 7 with (at_builtin; go_loud (refine wpList_app_srck rfl (.tmp 23) (.tmp 25) 32 103 i3 (.agg #[.int .i64 0, .int .i64 0]) 2 16 rfl Tryz.underlying32 ki3 hz03 hz13 hz23 rfl (by decide) (by decide) wu2.heap.size wu2 (.slice none 0 0) 0 [] rfl own3 (some ⟨g3, 0, none⟩) 5 c3 rfl (fun c9 => by cases c9) X3 hm3 RD3 u3 hll3 (Nat.le_refl _) ?_; intro vv3 x3 oo3 gg3; obtain ⟨k3, d3, rfl, hk3, br3, bl3⟩ := app_br oo3 gg3 hpp3; have zz3 := ((O4.out.next bl3).cell 12).trans rfl; have ff3 := (O4.out.next bl3).free 12))
 have O5 : Hid (Bk (x3.setCell ⟨b + 1 + 1, 12, none⟩ (.slice (some ⟨k3, 0, none⟩) 5 d3)) (b + 1 + 1) (zq0 cw ch cl cd cr ci cb we ca node (some ⟨k1, 0, none⟩) (5 * n) d1 (some ⟨k2, 0, none⟩) (5 * n) d2 (some ⟨k3, 0, none⟩) 5 d3 none 0 0) 34) := show Bk _ _ _ _ from by
  have := (O4.out.next bl3).set 12 (.slice (some ⟨k3, 0, none⟩) 5 d3)
  simpa using this
 have P5 : Hid (Bk (x3.setCell ⟨b + 1 + 1, 12, none⟩ (.slice (some ⟨k3, 0, none⟩) 5 d3)) b (zq0 cw ch cl cd cr ci cb we ca node (some ⟨g1, 0, none⟩) (5 * n) c1 (some ⟨g2, 0, none⟩) (5 * n) c2 (some ⟨g3, 0, none⟩) 5 c3 (some ⟨g4, 0, none⟩) 5 c4) 34) := (P4.out.next bl3).far n0
 have Q5 : Hid (Bk (x3.setCell ⟨b + 1 + 1, 12, none⟩ (.slice (some ⟨k3, 0, none⟩) 5 d3)) (b + 1) zqZ 34) := (Q4.out.next bl3).far n1
 have RR5 : Hid (R4 (x3.setCell ⟨b + 1 + 1, 12, none⟩ (.slice (some ⟨k3, 0, none⟩) 5 d3)) g1 g2 g3 g4 c1 c2 c3 c4 n X1 X2 X3 X4) := (RR4.out.next bl3).keep fun g hg => Below.heap_setCell x3 ⟨b + 1 + 1, 12, none⟩ _ g (by have := HGB.out g hg; show g ≠ b + 1 + 1; omega)
 have B5 : Hid (Below b w (x3.setCell ⟨b + 1 + 1, 12, none⟩ (.slice (some ⟨k3, 0, none⟩) 5 d3)) ∧ b + 1 + 1 < (x3.setCell ⟨b + 1 + 1, 12, none⟩ (.slice (some ⟨k3, 0, none⟩) 5 d3)).heap.size) := show _ ∧ _ from ⟨(B4.out.1.trans (bl3.mono (by omega))).setCell (by show b ≤ b + 1 + 1; omega) _, by simp; exact Nat.lt_of_lt_of_le B4.out.2 bl3.size⟩
 have E3 : Hid (BR (x3.setCell ⟨b + 1 + 1, 12, none⟩ (.slice (some ⟨k3, 0, none⟩) 5 d3)) k3 103 2 5 d3 X3 ∧ b + 1 + 1 < k3) := show _ ∧ _ from ⟨br3.keep (Below.heap_setCell x3 ⟨b + 1 + 1, 12, none⟩ _ k3 (by show k3 ≠ b + 1 + 1; omega)), by omega⟩
 have ne3 : Hid (wu2.heap.size ≤ k3) := hk3
 have E1 : Hid (BR (x3.setCell ⟨b + 1 + 1, 12, none⟩ (.slice (some ⟨k3, 0, none⟩) 5 d3)) k1 100 6 (5 * n) d1 X1 ∧ b + 1 + 1 < k1) := show _ ∧ _ from ⟨(E1.out.1.next bl3).keep (Below.heap_setCell x3 ⟨b + 1 + 1, 12, none⟩ _ k1 (by have := E1.out.2; show k1 ≠ b + 1 + 1; omega)), E1.out.2⟩
 have nn13 : Hid (k1 ≠ k3) := show _ ≠ _ from fun e9 => by have := PL1.out; omega
 have E2 : Hid (BR (x3.setCell ⟨b + 1 + 1, 12, none⟩ (.slice (some ⟨k3, 0, none⟩) 5 d3)) k2 3 1 (5 * n) d2 X2 ∧ b + 1 + 1 < k2) := show _ ∧ _ from ⟨(E2.out.1.next bl3).keep (Below.heap_setCell x3 ⟨b + 1 + 1, 12, none⟩ _ k2 (by have := E2.out.2; show k2 ≠ b + 1 + 1; omega)), E2.out.2⟩
 have nn23 : Hid (k2 ≠ k3) := show _ ≠ _ from fun e9 => by have := PL2.out; omega
 clear O4 P4 Q4 RR4 B4 y3 z3 own3 hm3 RD3 hs3 ki3 hz03 hz13 hz23 hll3 hpp3 oo3 gg3 br3 bl3 zz3 ff3 ne3 hk3
 generalize (x3.setCell ⟨b + 1 + 1, 12, none⟩ (.slice (some ⟨k3, 0, none⟩) 5 d3)) = wu3 at *
 have PL1 : Hid (k1 < wu3.heap.size) := E1.out.1.lt
 have PL2 : Hid (k2 < wu3.heap.size) := E2.out.1.lt
 have PL3 : Hid (k3 < wu3.heap.size) := E3.out.1.lt
 have y4 := (P5.out.cell 13).trans rfl
 have z4 := (O5.out.cell 13).trans rfl
 have own4 := OwnK.nil wu3 wu3.heap.size 103 2
 have hm4 := RR5.out.a4.len.1
 have RD4 := RR5.out.a4.rd
 have hs4 := B5.out.2
 obtain ⟨i4, ki4, hz04, hz14, hz24⟩ := info_parts (P := Tryz.prog) (e := 103) (z := .agg #[.int .i64 0, .int .i64 0]) (size := 2) (bytes := 16) (by kernel_rfl)
 have hll4 : 0 + 5 ≤ 1000000 := by decide
 have hpp4 : 0 < 5 := by decide
 go_upto_region 8 with (at_builtin; go_loud (refine wpList_app_srck rfl (.tmp 29) (.tmp 31) 32 103 i4 (.agg #[.int .i64 0, .int .i64 0]) 2 16 rfl Tryz.underlying32 ki4 hz04 hz14 hz24 rfl (by decide) (by decide) wu3.heap.size wu3 (.slice none 0 0) 0 [] rfl own4 (some ⟨g4, 0, none⟩) 5 c4 rfl (fun c9 => by cases c9) X4 hm4 RD4 u4 hll4 (Nat.le_refl _) ?_; intro vv4 x4 oo4 gg4; obtain ⟨k4, d4, rfl, hk4, br4, bl4⟩ := app_br oo4 gg4 hpp4; have zz4 := ((O5.out.next bl4).cell 13).trans rfl; have ff4 := (O5.out.next bl4).free 13))
 have O6 : Hid (Bk (x4.setCell ⟨b + 1 + 1, 13, none⟩ (.slice (some ⟨k4, 0, none⟩) 5 d4)) (b + 1 + 1) (zq0 cw ch cl cd cr ci cb we ca node (some ⟨k1, 0, none⟩) (5 * n) d1 (some ⟨k2, 0, none⟩) (5 * n) d2 (some ⟨k3, 0, none⟩) 5 d3 (some ⟨k4, 0, none⟩) 5 d4) 34) := show Bk _ _ _ _ from by
  have := (O5.out.next bl4).set 13 (.slice (some ⟨k4, 0, none⟩) 5 d4)
  simpa using this
 have P6 : Hid (Bk (x4.setCell ⟨b + 1 + 1, 13, none⟩ (.slice (some ⟨k4, 0, none⟩) 5 d4)) b (zq0 cw ch cl cd cr ci cb we ca node (some ⟨g1, 0, none⟩) (5 * n) c1 (some ⟨g2, 0, none⟩) (5 * n) c2 (some ⟨g3, 0, none⟩) 5 c3 (some ⟨g4, 0, none⟩) 5 c4) 34) := (P5.out.next bl4).far n0
 have Q6 : Hid (Bk (x4.setCell ⟨b + 1 + 1, 13, none⟩ (.slice (some ⟨k4, 0, none⟩) 5 d4)) (b + 1) zqZ 34) := (Q5.out.next bl4).far n1
 have RR6 : Hid (R4 (x4.setCell ⟨b + 1 + 1, 13, none⟩ (.slice (some ⟨k4, 0, none⟩) 5 d4)) g1 g2 g3 g4 c1 c2 c3 c4 n X1 X2 X3 X4) := (RR5.out.next bl4).keep fun g hg => Below.heap_setCell x4 ⟨b + 1 + 1, 13, none⟩ _ g (by have := HGB.out g hg; show g ≠ b + 1 + 1; omega)
 have B6 : Hid (Below b w (x4.setCell ⟨b + 1 + 1, 13, none⟩ (.slice (some ⟨k4, 0, none⟩) 5 d4)) ∧ b + 1 + 1 < (x4.setCell ⟨b + 1 + 1, 13, none⟩ (.slice (some ⟨k4, 0, none⟩) 5 d4)).heap.size) := show _ ∧ _ from ⟨(B5.out.1.trans (bl4.mono (by omega))).setCell (by show b ≤ b + 1 + 1; omega) _, by simp; exact Nat.lt_of_lt_of_le B5.out.2 bl4.size⟩
 have E4 : Hid (BR (x4.setCell ⟨b + 1 + 1, 13, none⟩ (.slice (some ⟨k4, 0, none⟩) 5 d4)) k4 103 2 5 d4 X4 ∧ b + 1 + 1 < k4) := show _ ∧ _ from ⟨br4.keep (Below.heap_setCell x4 ⟨b + 1 + 1, 13, none⟩ _ k4 (by show k4 ≠ b + 1 + 1; omega)), by omega⟩
 have ne4 : Hid (wu3.heap.size ≤ k4) := hk4
 have E1 : Hid (BR (x4.setCell ⟨b + 1 + 1, 13, none⟩ (.slice (some ⟨k4, 0, none⟩) 5 d4)) k1 100 6 (5 * n) d1 X1 ∧ b + 1 + 1 < k1) := show _ ∧ _ from ⟨(E1.out.1.next bl4).keep (Below.heap_setCell x4 ⟨b + 1 + 1, 13, none⟩ _ k1 (by have := E1.out.2; show k1 ≠ b + 1 + 1; omega)), E1.out.2⟩
 have nn14 : Hid (k1 ≠ k4) := show _ ≠ _ from fun e9 => by have := PL1.out; omega
 have E2 : Hid (BR (x4.setCell ⟨b + 1 + 1, 13, none⟩ (.slice (some ⟨k4, 0, none⟩) 5 d4)) k2 3 1 (5 * n) d2 X2 ∧ b + 1 + 1 < k2) := show _ ∧ _ from ⟨(E2.out.1.next bl4).keep (Below.heap_setCell x4 ⟨b + 1 + 1, 13, none⟩ _ k2 (by have := E2.out.2; show k2 ≠ b + 1 + 1; omega)), E2.out.2⟩
 have nn24 : Hid (k2 ≠ k4) := show _ ≠ _ from fun e9 => by have := PL2.out; omega
 have E3 : Hid (BR (x4.setCell ⟨b + 1 + 1, 13, none⟩ (.slice (some ⟨k4, 0, none⟩) 5 d4)) k3 103 2 5 d3 X3 ∧ b + 1 + 1 < k3) := show _ ∧ _ from ⟨(E3.out.1.next bl4).keep (Below.heap_setCell x4 ⟨b + 1 + 1, 13, none⟩ _ k3 (by have := E3.out.2; show k3 ≠ b + 1 + 1; omega)), E3.out.2⟩
 have nn34 : Hid (k3 ≠ k4) := show _ ≠ _ from fun e9 => by have := PL3.out; omega
 clear O5 P5 Q5 RR5 B5 y4 z4 own4 hm4 RD4 hs4 ki4 hz04 hz14 hz24 hll4 hpp4 oo4 gg4 br4 bl4 zz4 ff4 ne4 hk4
 generalize (x4.setCell ⟨b + 1 + 1, 13, none⟩ (.slice (some ⟨k4, 0, none⟩) 5 d4)) = wu4 at *
 have PL1 : Hid (k1 < wu4.heap.size) := E1.out.1.lt
 have PL2 : Hid (k2 < wu4.heap.size) := E2.out.1.lt
 have PL3 : Hid (k3 < wu4.heap.size) := E3.out.1.lt
 have PL4 : Hid (k4 < wu4.heap.size) := E4.out.1.lt
 have HR4 : Hid (R4 wu4 k1 k2 k3 k4 d1 d2 d3 d4 n X1 X2 X3 X4 ∧ (b ≤ k1 ∧ b ≤ k2 ∧ b ≤ k3 ∧ b ≤ k4) ∧ (b + 1 ≠ k1 ∧ b + 1 ≠ k2 ∧ b + 1 ≠ k3 ∧ b + 1 ≠ k4)) := show _ ∧ _ ∧ _ from ⟨⟨E1.out.1, E2.out.1, E3.out.1, E4.out.1, nn12.out, nn13.out, nn14.out, nn23.out, nn24.out, nn34.out⟩, ⟨by have := E1.out.2; omega, by have := E2.out.2; omega, by have := E3.out.2; omega, by have := E4.out.2; omega⟩, ⟨by have := E1.out.2; omega, by have := E2.out.2; omega, by have := E3.out.2; omega, by have := E4.out.2; omega⟩⟩
 clear E1 E2 E3 E4 nn12 nn13 nn14 nn23 nn24 nn34 PL1 PL2 PL3 PL4 P6 RR6
 go_wp2_with (first
  | (refine wpList_load_bk rfl 34 (.tmp 3) rfl (b + 1 + 1) rfl _ O6.out Tryz.underlying34 rfl (by kernel_rfl) ?_)
  | (refine wpList_store_bk rfl 34 (.tmp 2) (.tmp 34) rfl (b + 1) (zq0 cw ch cl cd cr ci cb we ca node (some ⟨k1, 0, none⟩) (5 * n) d1 (some ⟨k2, 0, none⟩) (5 * n) d2 (some ⟨k3, 0, none⟩) 5 d3 (some ⟨k4, 0, none⟩) 5 d4) rfl rfl Q6.out (by kernel_rfl) rfl rfl ?_; intro wF qF oF))
 have hf := HR4.out.1.keep (w' := wF) fun g hg => oF.out.block g (HR4.out.1.lt g hg) fun e9 => by
  have e8 := Option.some.inj e9
  have := HR4.out.2.2
  rcases hg with rfl | rfl | rfl | rfl
  ·exact this.1 e8.symm
  ·exact this.2.1 e8.symm
  ·exact this.2.2.1 e8.symm
  ·exact this.2.2.2 e8.symm
 have hbl : Below b w wF := B6.out.1.grown oF (by have := B6.out.2; omega) (fun q hq => by cases hq; omega)
 refine bodyPost_ret (v := .agg (zq0 cw ch cl cd cr ci cb we ca node (some ⟨k1, 0, none⟩) (5 * n) d1 (some ⟨k2, 0, none⟩) (5 * n) d2 (some ⟨k3, 0, none⟩) 5 d3 (some ⟨k4, 0, none⟩) 5 d4)) (results_cell_row rfl _ _ (b + 1) 34 _ (0, 0) _ rfl qF Tryz.underlying34 rfl (by kernel_rfl)) rfl ⟨k1, k2, k3, k4, d1, d2, d3, d4, rfl, hf, by rw [HB.out]; exact HR4.out.2.1, by rw [HB.out]; exact hbl⟩
end Go.Proofs.YtmmegmonmilkcaaGreatDoor

namespace Go.Proofs.YtmmegmonmilkcaaGreatDoor
open Go.RowKit
theorem results_ct {P : Program} {fn : Func} {p q : Tmp} {ty : TypeId} (h : fn.results = #[.cell p ty, .tmp q]) (tmps : Array Value) (w : World) (g : Nat) (t : TypeId) (cs : Array Value) (d : TypeDesc)
  (hp : tmps.getD p undef = .pointer (some ⟨g, 0, none⟩)) (hg : w.heap[g]? = some (.cells cs t (0, 0)))
  (hu : P.underlying ty = some d) (hd : (match d with | .struct _ | .array _ _ => true | _ => false) = true) (hi : (P.info? ty).map (·.size) = some cs.size) :
  (results fn tmps).run P w = .ok (.tuple #[.agg cs, tmps.getD q undef]) w := by
 have hp' : tmps[p]?.getD undef = .pointer (some ⟨g, 0, none⟩) := by simpa using hp
 simp [results, h, hp', asAddr, run_loadVar_row w g t ty cs (0, 0) d hg hu hd hi]
theorem lw_at {L : List LW} {S : RS} (e : L.map (·.1) = S.ins) (hl : S.ins.length = 5 * S.n) {k : Nat} (hk : k < 5 * S.n) : ∃ x, L[k]? = some x ∧ x.1 = S.ins.getD k zks ∧ x ∈ L ∧ k < L.length := by
 have h1 : L.length = 5 * S.n := by rw [← hl, ← e, List.length_map]
 have h2 : k < L.length := by omega
 refine ⟨L[k], List.getElem?_eq_getElem h2, ?_, List.getElem_mem h2, h2⟩
 rw [← e, List.getD_eq_getElem?_getD, List.getElem?_map, List.getElem?_eq_getElem h2]
 rfl
theorem lw_cells {w : World} {g c n k : Nat} {L : List LW} {x : LW} (h : BR w g 100 6 n c (lrow L)) (hx : L[k]? = some x) (hk : k < n) : ∀ j, j < 6 → w.cell? ⟨g, k * 6 + j, none⟩ = (lwc x)[j]? := fun j hj => by
 rw [h.cell _ (by omega)]
 exact flat_at lwc_len L k j x hx hj
theorem lw_six {w : World} {g c n k : Nat} {L : List LW} {x : LW} (h : BR w g 100 6 n c (lrow L)) (hx : L[k]? = some x) (hk : k < n) :
  w.cell? ⟨g, k * 6, none⟩ = some (.int .i64 (x.1.r : Int)) ∧ w.cell? ⟨g, k * 6 + 1, none⟩ = some (.int .i64 x.1.ph) ∧ w.cell? ⟨g, k * 6 + 2, none⟩ = some (.int .i64 x.1.port) ∧ w.cell? ⟨g, k * 6 + 3, none⟩ = some (.int .i64 x.1.lane) ∧ w.cell? ⟨g, k * 6 + 4, none⟩ = some (.slice x.2.1 x.1.ws.length x.2.2) ∧ w.cell? ⟨g, k * 6 + 5, none⟩ = some (.bool x.1.cp) :=
 ⟨(lw_cells h hx hk 0 (by decide)).trans rfl, (lw_cells h hx hk 1 (by decide)).trans rfl, (lw_cells h hx hk 2 (by decide)).trans rfl, (lw_cells h hx hk 3 (by decide)).trans rfl, (lw_cells h hx hk 4 (by decide)).trans rfl, (lw_cells h hx hk 5 (by decide)).trans rfl⟩
section
variable {w w' : World} {g1 g2 g3 g4 c1 c2 c3 c4 n k : Nat} {X1 X2 X3 X4 : List Value}
theorem R4.set1 {L : List LW} (r : R4 w g1 g2 g3 g4 c1 c2 c3 c4 n (lrow L) X2 X3 X4) (hk : k < L.length) (x : LW) :
  ∃ cur, Bk w g1 cur 100 ∧ k * 6 + 6 ≤ cur.size ∧ ∀ w', Bk w' g1 (cur.toList.take (k * 6) ++ lwc x ++ cur.toList.drop (k * 6 + 6)).toArray 100 → On g1 w w' → R4 w' g1 g2 g3 g4 c1 c2 c3 c4 n (lrow (L.set k x)) X2 X3 X4 := by
 obtain ⟨cur, hb, h1, h2, h3, h4, h5⟩ := r.a1
 have hl : L.length = 5 * n := by
  have := flat_len lwc_len L
  unfold lrow at h3
  omega
 have h6 : k * 6 + 6 ≤ 5 * n * 6 := by omega
 refine ⟨cur, hb, by omega, fun w' hw ho => ⟨?_, r.a2.on ho r.n12.symm, r.a3.on ho r.n13.symm, r.a4.on ho r.n14.symm, r.n12, r.n13, r.n14, r.n23, r.n24, r.n34⟩⟩
 have := BR.part (vs := lwc x) hb h1 h2 h3 h4 h5 (by rw [lwc_len]; exact h6) (by rw [lwc_len]; exact hw)
 rw [lwc_len] at this
 unfold lrow at this ⊢
 rw [flat_set lwc_len L k x hk]
 exact this
theorem R4.set3 {N : Nat} {l : List Nat} (r : R4 w g1 g2 g3 g4 c1 c2 c3 c4 n X1 X2 (frow N l) X4) (hk : k < l.length) (x : Nat) :
  ∃ cur, Bk w g3 cur 103 ∧ k * 2 + 2 ≤ cur.size ∧ ∀ w', Bk w' g3 (cur.toList.take (k * 2) ++ fcl N x ++ cur.toList.drop (k * 2 + 2)).toArray 103 → On g3 w w' → R4 w' g1 g2 g3 g4 c1 c2 c3 c4 n X1 X2 (frow N (l.set k x)) X4 := by
 obtain ⟨cur, hb, h1, h2, h3, h4, h5⟩ := r.a3
 have hl : l.length = 5 := by
  have := flat_len (fcl_len N) l
  unfold frow at h3
  omega
 have h6 : k * 2 + 2 ≤ 5 * 2 := by omega
 refine ⟨cur, hb, by omega, fun w' hw ho => ⟨r.a1.on ho r.n13, r.a2.on ho r.n23, ?_, r.a4.on ho r.n34.symm, r.n12, r.n13, r.n14, r.n23, r.n24, r.n34⟩⟩
 have := BR.part (vs := fcl N x) hb h1 h2 h3 h4 h5 (by rw [fcl_len]; exact h6) (by rw [fcl_len]; exact hw)
 rw [fcl_len] at this
 unfold frow at this ⊢
 rw [flat_set (fcl_len N) l k x hk]
 exact this
theorem R4.set4 {N : Nat} {l : List Nat} (r : R4 w g1 g2 g3 g4 c1 c2 c3 c4 n X1 X2 X3 (frow N l)) (hk : k < l.length) (x : Nat) :
  ∃ cur, Bk w g4 cur 103 ∧ k * 2 + 2 ≤ cur.size ∧ ∀ w', Bk w' g4 (cur.toList.take (k * 2) ++ fcl N x ++ cur.toList.drop (k * 2 + 2)).toArray 103 → On g4 w w' → R4 w' g1 g2 g3 g4 c1 c2 c3 c4 n X1 X2 X3 (frow N (l.set k x)) := by
 obtain ⟨cur, hb, h1, h2, h3, h4, h5⟩ := r.a4
 have hl : l.length = 5 := by
  have := flat_len (fcl_len N) l
  unfold frow at h3
  omega
 have h6 : k * 2 + 2 ≤ 5 * 2 := by omega
 refine ⟨cur, hb, by omega, fun w' hw ho => ⟨r.a1.on ho r.n14, r.a2.on ho r.n24, r.a3.on ho r.n34, ?_, r.n12, r.n13, r.n14, r.n23, r.n24, r.n34⟩⟩
 have := BR.part (vs := fcl N x) hb h1 h2 h3 h4 h5 (by rw [fcl_len]; exact h6) (by rw [fcl_len]; exact hw)
 rw [fcl_len] at this
 unfold frow at this ⊢
 rw [flat_set (fcl_len N) l k x hk]
 exact this
theorem R4.set2 {l : List Int} (r : R4 w g1 g2 g3 g4 c1 c2 c3 c4 n X1 (vi l) X3 X4) (hk : k < l.length) (x : Int) :
  (∃ y, w.cell? ⟨g2, k, none⟩ = some y) ∧ w.frozen? ⟨g2, k, none⟩ = false ∧ R4 (w.setCell ⟨g2, k, none⟩ (.int .i64 x)) g1 g2 g3 g4 c1 c2 c3 c4 n X1 (vi (l.set k x)) X3 X4 := by
 obtain ⟨cur, hb, h1, h2, h3, h4, h5⟩ := r.a2
 have hl : l.length = 5 * n := by
  have : (vi l).length = l.length := by unfold vi; rw [List.length_map]
  omega
 have fr : ∀ q, q ≠ g2 → (w.setCell ⟨g2, k, none⟩ (.int .i64 x)).heap[q]? = w.heap[q]? := fun q hq => Below.heap_setCell w ⟨g2, k, none⟩ _ q hq
 have hkc : k < cur.size := by omega
 refine ⟨⟨cur[k], by rw [hb.cell, Array.getElem?_eq_getElem hkc]⟩, hb.free k, r.a1.keep (fr _ r.n12), ⟨_, hb.set k (.int .i64 x), h1, h2, ?_, ?_, ?_⟩, r.a3.keep (fr _ r.n23.symm), r.a4.keep (fr _ r.n24.symm), r.n12, r.n13, r.n14, r.n23, r.n24, r.n34⟩
 ·unfold vi; rw [List.length_map, List.length_set]; omega
 ·simpa using h4
 ·rw [Array.toList_setIfInBounds, List.take_set, h5]
  unfold vi
  rw [List.map_set]
end
end Go.Proofs.YtmmegmonmilkcaaGreatDoor

namespace Go.Proofs.YtmmegmonmilkcaaGreatDoor
open Go.RowKit
structure S2 (w v : World) (b : Nat) (p r : Array Value) : Prop where
 hb : w.heap.size = b
 bl : Below w.heap.size w v
 p : Bk v b p 34
 r : Bk v (b + 1) r 34
section
variable {w v v' : World} {b q : Nat} {p r r' : Array Value}
theorem S2.start (w : World) (p r : Array Value) : S2 w ((w.alloc (.cells p 34)).alloc (.cells r 34)) w.heap.size p r := by
 have s1 : (w.alloc (.cells p 34)).heap.size = w.heap.size + 1 := by simp
 refine ⟨rfl, ((Below.refl _ _).alloc (Nat.le_refl _) _).alloc (by omega) _, (Bk.new w _ _).alloc _, ?_⟩
 rw [← s1]; exact Bk.new _ _ _
theorem S2.next (h : S2 w v b p r) (k : Below v.heap.size v v') : S2 w v' b p r := ⟨h.hb, h.bl.trans (k.mono h.bl.size), h.p.next k, h.r.next k⟩
theorem S2.on (h : S2 w v b p r) (k : On q v v') (hq : b + 1 < q) : S2 w v' b p r :=
 ⟨h.hb, h.bl.grown k h.bl.size (fun x hx => by cases hx; have := h.hb; omega), h.p.on k (by omega), h.r.on k (by omega)⟩
theorem S2.ret (h : S2 w v b p r) (k : On (b + 1) v v') (hr : Bk v' (b + 1) r' 34) : S2 w v' b p r' :=
 ⟨h.hb, h.bl.grown k h.bl.size (fun x hx => by cases hx; have := h.hb; omega), h.p.on k (by omega), hr⟩
theorem S2.lt (h : S2 w v b p r) : b + 1 < v.heap.size := h.r.lt
end
structure N5 (v : World) (b m k1 k2 k3 k4 d1 d2 d3 d4 n : Nat) (cs : Array Value) (X1 X2 X3 X4 : List Value) : Prop where
 o : Bk v m cs 34
 r : R4 v k1 k2 k3 k4 d1 d2 d3 d4 n X1 X2 X3 X4
 lt : b + 1 < m ∧ b + 1 < k1 ∧ b + 1 < k2 ∧ b + 1 < k3 ∧ b + 1 < k4
 ne : m ≠ k1 ∧ m ≠ k2 ∧ m ≠ k3 ∧ m ≠ k4
section
variable {v v' u : World} {b m k1 k2 k3 k4 d1 d2 d3 d4 n k q : Nat} {cs : Array Value} {X1 X2 X3 X4 : List Value}
theorem N5.of (r : R4 u k1 k2 k3 k4 d1 d2 d3 d4 n X1 X2 X3 X4) {h : Nat} (hb : b + 1 < h) (hh : h ≤ u.heap.size) (hk : h ≤ k1 ∧ h ≤ k2 ∧ h ≤ k3 ∧ h ≤ k4) {o : Obj} (s : Bk v u.heap.size cs 34) (k : On u.heap.size (u.alloc o) v) : N5 v b u.heap.size k1 k2 k3 k4 d1 d2 d3 d4 n cs X1 X2 X3 X4 := by
 have r2 := r.next ((Below.refl _ _).alloc (Nat.le_refl _) o)
 have l1 := r.lt k1 (Or.inl rfl)
 have l2 := r.lt k2 (Or.inr (Or.inl rfl))
 have l3 := r.lt k3 (Or.inr (Or.inr (Or.inl rfl)))
 have l4 := r.lt k4 (Or.inr (Or.inr (Or.inr rfl)))
 refine ⟨s, r2.keep fun g hg => k.out.block g (r2.lt g hg) fun e => ?_, ⟨by omega, by omega, by omega, by omega, by omega⟩, ⟨by omega, by omega, by omega, by omega⟩⟩
 have e8 := Option.some.inj e
 rcases hg with rfl | rfl | rfl | rfl <;> omega
theorem N5.next (h : N5 v b m k1 k2 k3 k4 d1 d2 d3 d4 n cs X1 X2 X3 X4) (k : Below v.heap.size v v') : N5 v' b m k1 k2 k3 k4 d1 d2 d3 d4 n cs X1 X2 X3 X4 := ⟨h.o.next k, h.r.next k, h.lt, h.ne⟩
theorem N5.ret (h : N5 v b m k1 k2 k3 k4 d1 d2 d3 d4 n cs X1 X2 X3 X4) (k : On (b + 1) v v') : N5 v' b m k1 k2 k3 k4 d1 d2 d3 d4 n cs X1 X2 X3 X4 := by
 obtain ⟨h0, h1, h2, h3, h4⟩ := h.lt
 refine ⟨h.o.on k (by omega), h.r.keep fun g hg => k.out.block g (h.r.lt g hg) fun e => ?_, h.lt, h.ne⟩
 have e8 := Option.some.inj e
 rcases hg with rfl | rfl | rfl | rfl <;> omega
theorem N5.set1 {L : List LW} (h : N5 v b m k1 k2 k3 k4 d1 d2 d3 d4 n cs (lrow L) X2 X3 X4) (hk : k < L.length) (x : LW) :
  ∃ cur, Bk v k1 cur 100 ∧ k * 6 + 6 ≤ cur.size ∧ ∀ v', Bk v' k1 (cur.toList.take (k * 6) ++ lwc x ++ cur.toList.drop (k * 6 + 6)).toArray 100 → On k1 v v' → N5 v' b m k1 k2 k3 k4 d1 d2 d3 d4 n cs (lrow (L.set k x)) X2 X3 X4 := by
 obtain ⟨cur, h1, h2, h3⟩ := h.r.set1 hk x
 exact ⟨cur, h1, h2, fun v' hv ho => ⟨h.o.on ho h.ne.1, h3 v' hv ho, h.lt, h.ne⟩⟩
theorem N5.set3 {N : Nat} {l : List Nat} (h : N5 v b m k1 k2 k3 k4 d1 d2 d3 d4 n cs X1 X2 (frow N l) X4) (hk : k < l.length) (x : Nat) :
  ∃ cur, Bk v k3 cur 103 ∧ k * 2 + 2 ≤ cur.size ∧ ∀ v', Bk v' k3 (cur.toList.take (k * 2) ++ fcl N x ++ cur.toList.drop (k * 2 + 2)).toArray 103 → On k3 v v' → N5 v' b m k1 k2 k3 k4 d1 d2 d3 d4 n cs X1 X2 (frow N (l.set k x)) X4 := by
 obtain ⟨cur, h1, h2, h3⟩ := h.r.set3 hk x
 exact ⟨cur, h1, h2, fun v' hv ho => ⟨h.o.on ho h.ne.2.2.1, h3 v' hv ho, h.lt, h.ne⟩⟩
theorem N5.set4 {N : Nat} {l : List Nat} (h : N5 v b m k1 k2 k3 k4 d1 d2 d3 d4 n cs X1 X2 X3 (frow N l)) (hk : k < l.length) (x : Nat) :
  ∃ cur, Bk v k4 cur 103 ∧ k * 2 + 2 ≤ cur.size ∧ ∀ v', Bk v' k4 (cur.toList.take (k * 2) ++ fcl N x ++ cur.toList.drop (k * 2 + 2)).toArray 103 → On k4 v v' → N5 v' b m k1 k2 k3 k4 d1 d2 d3 d4 n cs X1 X2 X3 (frow N (l.set k x)) := by
 obtain ⟨cur, h1, h2, h3⟩ := h.r.set4 hk x
 exact ⟨cur, h1, h2, fun v' hv ho => ⟨h.o.on ho h.ne.2.2.2, h3 v' hv ho, h.lt, h.ne⟩⟩
theorem N5.set2 {l : List Int} (h : N5 v b m k1 k2 k3 k4 d1 d2 d3 d4 n cs X1 (vi l) X3 X4) (hk : k < l.length) (x : Int) :
  (∃ y, v.cell? ⟨k2, k, none⟩ = some y) ∧ v.frozen? ⟨k2, k, none⟩ = false ∧ N5 (v.setCell ⟨k2, k, none⟩ (.int .i64 x)) b m k1 k2 k3 k4 d1 d2 d3 d4 n cs X1 (vi (l.set k x)) X3 X4 := by
 obtain ⟨h1, h2, h3⟩ := h.r.set2 hk x
 exact ⟨h1, h2, ⟨h.o.far h.ne.2.1, h3, h.lt, h.ne⟩⟩
theorem N5.on1 (h : N5 v b m k1 k2 k3 k4 d1 d2 d3 d4 n cs X1 X2 X3 X4) : b + 1 < k1 := h.lt.2.1
end
theorem findK_ws (K : KS) (node P : Int) : (findK K node P).1.ws = K.ws := by
 unfold findK
 repeat' split
 all_goals (first | rfl | assumption | (rename_i h; exact h.symm) | simp_all)
theorem below_new {w w' : World} {o : Obj} (h : On w.heap.size (w.alloc o) w') : Below w.heap.size w w' :=
 ((Below.refl _ _).alloc (Nat.le_refl _) _).grown h (by simp) (fun q hq => by cases hq; exact Nat.le_refl _)
theorem LaR.on {w w' : World} {K : KS} {a : Option Addr} {cap q : Nat} (h : LaR w K a cap) (o : On q w w') (hq : K.ws ≠ [] → ∀ x, a = some x → x.block ≠ q) : LaR w' K a cap := by
 refine ⟨?_, h.nil, h.le, h.mx⟩
 by_cases hw : K.ws = []
 ·rw [hw]
  exact fun j u hj => by simp [vw] at hj
 ·intro j u hj
  obtain ⟨g, p, e, h1, h2⟩ := h.rd j u hj
  have h3 : g ≠ q := hq hw _ e
  refine ⟨g, p, e, Nat.lt_of_lt_of_le h1 o.size, ?_⟩
  rw [← h2]
  unfold World.cell?
  rw [o.out.block g h1 fun e9 => h3 (Option.some.inj e9)]
theorem LaR.lt {w : World} {K : KS} {a : Option Addr} {cap : Nat} (h : LaR w K a cap) (hw : K.ws ≠ []) : ∀ x, a = some x → x.block < w.heap.size := by
 intro x e
 cases hws : K.ws with
 | nil => exact absurd hws hw
 | cons z t =>
  obtain ⟨g, o, e2, hg, -⟩ := h.rd 0 (.int .u64 (z : Int)) (by rw [hws]; rfl)
  rw [e] at e2
  cases e2
  exact hg
theorem Whence.mono {B B' : Nat} {N : Prop} {a a' : Option Addr} (h : Whence B' N a a') (hB : B ≤ B') : Whence B N a a' := fun x e => (h x e).imp id fun h2 => Nat.le_trans hB h2
theorem Whence.apart {w : World} {K : KS} {a a' : Option Addr} {cap B : Nat} (h : Whence B (K.ws ≠ []) a a') (hl : LaR w K a cap) : ∀ x, a' = some x → x.block < w.heap.size ∨ B ≤ x.block := fun x e => (h x e).imp (fun ⟨h1, z, hz, e9⟩ => e9 ▸ hl.lt h1 z hz) id
theorem ix_int {p l n : Nat} (hp : p < 5) (hl : l < n) (hn : n ≤ 8) : wrap64 ((p : Int) * (n : Int)) = ((p * n : Nat) : Int) ∧ wrap64 (((p * n : Nat) : Int) + (l : Int)) = ((p * n + l : Nat) : Int) := by
 have h1 : p * n ≤ 4 * 8 := Nat.mul_le_mul (by omega) hn
 have h2 : ((p : Int) * (n : Int)) = ((p * n : Nat) : Int) := by rw [Int.natCast_mul]
 constructor
 ·rw [h2, ← IntWalk.i64_left, IntWalk.i64_in _ (by omega)]
 ·rw [← IntWalk.i64_left, IntWalk.i64_in _ (by omega)]; omega
end Go.Proofs.YtmmegmonmilkcaaGreatDoor

namespace Go.Proofs.YtmmegmonmilkcaaGreatDoor
open Go.RowKit
theorem range_find_congr {p q : Nat → Bool} : ∀ (l : List Nat), (∀ x ∈ l, p x = q x) → l.find? p = l.find? q
 | [], _ => rfl
 | x :: l, h => by
  rw [List.find?_cons, List.find?_cons, h x (List.mem_cons_self ..), range_find_congr l fun y hy => h y (List.mem_cons_of_mem _ hy)]
theorem ask_congr {N l : Nat} {W V : Nat → Bool} (h : ∀ k, k < N → W k = V k) : ask N l W = ask N l V := by
 have : sel N l W = sel N l V := by
  unfold sel
  refine range_find_congr _ fun x hx => h _ (Nat.mod_lt _ ?_)
  have := List.mem_range.1 hx
  omega
 unfold ask
 rw [this]
theorem nxtl_congr {N l : Nat} {W V : Nat → Bool} (h : ∀ k, k < N → W k = V k) : nxtl N l W = nxtl N l V := by
 unfold nxtl
 rw [ask_congr h]
def trA (W : Nat → Bool) (N i : Nat) : Array Value := ((List.range N).map fun j => Value.bool (decide (j < i) && W j)).toArray
theorem trA_size (W : Nat → Bool) (N i : Nat) : (trA W N i).size = N := by simp [trA]
theorem trA_at {W : Nat → Bool} {N i j : Nat} (h : j < N) : (trA W N i)[j]? = some (.bool (decide (j < i) && W j)) := by
 unfold trA
 rw [List.getElem?_toArray, List.getElem?_map, List.getElem?_range h]
 rfl
theorem trA_ext {W : Nat → Bool} {N i : Nat} {A : Array Value} (hs : A.size = N) (h : ∀ j, j < N → A[j]? = some (.bool (decide (j < i) && W j))) : A = trA W N i := by
 apply Array.ext
 ·rw [hs, trA_size]
 ·intro j h1 h2
  have hj : j < N := by rw [← hs]; exact h1
  have e1 := h j hj
  have e2 := trA_at (W := W) (i := i) hj
  rw [Array.getElem?_eq_getElem h1] at e1
  rw [Array.getElem?_eq_getElem h2] at e2
  rw [Option.some.inj e1, Option.some.inj e2]
theorem trA_made (W : Nat → Bool) (N : Nat) : madeCells #[Value.bool false] (N * 1) = trA W N 0 := by
 apply trA_ext
 ·simp [madeCells]
 ·intro j hj
  rw [Array.getElem?_eq_getElem (by simpa [madeCells] using hj)]
  simp [madeCells, Nat.mod_one]
theorem trA_step {W : Nat → Bool} {N i : Nat} (hi : i < N) : (trA W N i).setIfInBounds i (.bool (W i)) = trA W N (i + 1) := by
 apply trA_ext
 ·simp [trA_size]
 ·intro j hj
  rw [Array.getElem?_setIfInBounds]
  by_cases e : i = j
  ·subst e
   rw [if_pos rfl, if_pos (by rw [trA_size]; exact hi)]
   simp
  ·rw [if_neg e, trA_at hj]
   have : (decide (j < i)) = decide (j < i + 1) := decide_eq_decide.2 (by omega)
   rw [this]
theorem trA_skip {W : Nat → Bool} {N i : Nat} (h : ∀ j, j < i → W j = false) : trA W N 0 = trA W N i := by
 apply trA_ext (trA_size _ _ _)
 intro j hj
 rw [trA_at hj]
 by_cases e : j < i
 ·rw [h j e]; simp
 ·rw [decide_eq_false e]; simp
theorem trA_end {W : Nat → Bool} {N i : Nat} (h : ∀ j, i ≤ j → j < N → W j = false) : trA W N i = trA W N N := by
 apply trA_ext (trA_size _ _ _)
 intro j hj
 rw [trA_at hj, decide_eq_true hj]
 by_cases e : j < i
 ·rw [decide_eq_true e]
 ·rw [h j (by omega) hj]; simp
theorem trA_all (W : Nat → Bool) (N : Nat) : trA W N N = (R12.vb ((List.range N).map W)).toArray := by
 unfold trA R12.vb
 rw [List.map_map]
 congr 1
 refine List.map_congr_left fun j hj => ?_
 have := List.mem_range.1 hj
 simp [this]
theorem wl_map {W : Nat → Bool} {N k : Nat} (h : k < N) : R12.wl ((List.range N).map W) k = W k := by
 unfold R12.wl
 rw [List.getD_eq_getElem?_getD, List.getElem?_map, List.getElem?_range h]
 rfl
theorem tr_rd {w : World} {g N : Nat} {W : Nat → Bool} {t : TypeId} (h : Bk w g (trA W N N) t) : Rd w (some ⟨g, 0, none⟩) (R12.vb ((List.range N).map W)) := fun j u hj => by
 refine ⟨g, 0, rfl, h.lt, ?_⟩
 rw [Nat.zero_add, h.cell, trA_all]
 simpa using hj
theorem ow_cell {w : World} {g c n k : Nat} {l : List Int} (h : BR w g 3 1 n c (vi l)) (hk : k < n) : w.cell? ⟨g, k, none⟩ = some (.int .i64 (l.getD k 0)) := by
 have hl : l.length = n := by
  have := h.len.1
  unfold vi at this
  rw [List.length_map] at this
  omega
 rw [h.cell k (by omega)]
 unfold vi
 rw [List.getElem?_map, List.getD_eq_getElem?_getD, List.getElem?_eq_getElem (by omega)]
 rfl
theorem tn_cell {w : World} {g c n N k : Nat} {l : List Nat} (h : BR w g 103 2 n c (frow N l)) (hk : k < n) :
  w.cell? ⟨g, k * 2, none⟩ = some (.int .i64 (N : Int)) ∧ w.cell? ⟨g, k * 2 + 1, none⟩ = some (.int .i64 ((l.getD k 0 : Nat) - 1 : Int)) := by
 have hl : l.length = n := by
  have h1 := h.len.1
  rw [fr_eq, flat_len (fcl_len N)] at h1
  omega
 have hx : l[k]? = some (l.getD k 0) := by rw [List.getD_eq_getElem?_getD, List.getElem?_eq_getElem (by omega)]; rfl
 have q : ∀ j, j < 2 → w.cell? ⟨g, k * 2 + j, none⟩ = (fcl N (l.getD k 0))[j]? := fun j hj => by
  rw [h.cell _ (by omega)]
  exact flat_at (fcl_len N) l k j _ hx hj
 exact ⟨(q 0 (by decide)).trans rfl, (q 1 (by decide)).trans rfl⟩
theorem cls_ways {c : G.Cf} (h : G.chk c = 0) {n : Nat} (hn : (n : Int) = c.l) (h1 : 1 ≤ n) (l : Nat) :
  ∃ f m : Nat, f + m ≤ n ∧ G.cla c (c.ca && decide ((l : Int) = c.l - 1)) = ((f : Int), (m : Int)) ∧ clsR c l = (f, m) := by
 have key : ∃ f m : Nat, f + m ≤ n ∧ G.cla c (c.ca && decide ((l : Int) = c.l - 1)) = ((f : Int), (m : Int)) := by
  unfold G.cla
  rw [if_pos h]
  by_cases ca : c.ca = true
  ·simp only [ca, if_true, Bool.true_and]
   by_cases e2 : (l : Int) = c.l - 1
   ·exact ⟨n - 1, 1, by omega, by rw [decide_eq_true e2]; simp; omega⟩
   ·exact ⟨0, n - 1, by omega, by rw [decide_eq_false e2]; simp; omega⟩
  ·exact ⟨0, n, by omega, by simp [ca]; omega⟩
 obtain ⟨f, m, h2, h3⟩ := key
 refine ⟨f, m, h2, h3, ?_⟩
 unfold clsR
 rw [h3]
 simp
theorem ix5 {q i n : Nat} (hq : q < 5) (hi : i < n) : q * n + i < 5 * n := by
 have h1 : q * n ≤ 4 * n := Nat.mul_le_mul_right _ (by omega)
 omega
theorem wrap_sum {f m n : Nat} (h : f + m ≤ n) (hn : n ≤ 8) : IntKind.i64.wrap ((f : Int) + (m : Int)) = (f : Int) + (m : Int) := IntWalk.i64_in _ (by omega)
theorem wrap_less {n : Nat} (hn : n ≤ 8) : IntKind.i64.wrap ((n : Int) - 1) = (n : Int) - 1 := IntWalk.i64_in _ (by omega)
theorem wrap_next {i n : Nat} (h : i < n) (hn : n ≤ 4096) : IntKind.i64.wrap ((i : Int) + 1) = (i : Int) + 1 := IntWalk.i64_in _ (by omega)
theorem ix_walk {q i n z : Nat} (hq : q < 5) (hi : i < n) (hn : n ≤ 8) (hz : q * n + i = z) : wrap64 ((q : Int) * (n : Int)) = (q : Int) * (n : Int) ∧ wrap64 ((q : Int) * (n : Int) + (i : Int)) = (z : Int) := by
 obtain ⟨j1, j2⟩ := ix_int hq hi hn
 rw [hz] at j2
 exact ⟨by rw [j1, Int.natCast_mul], by rw [← Int.natCast_mul]; exact j2⟩
end Go.Proofs.YtmmegmonmilkcaaGreatDoor

namespace Go.Proofs.YtmmegmonmilkcaaGreatDoor
open Go.RowKit
theorem results_cct {P : Program} {fn : Func} {p p2 q : Tmp} {ty ty2 : TypeId} (h : fn.results = #[.cell p ty, .cell p2 ty2, .tmp q]) (tmps : Array Value) (w : World) (g g2 : Nat) (t t2 : TypeId) (cs cs2 : Array Value) (d d2 : TypeDesc)
  (hp : tmps.getD p undef = .pointer (some ⟨g, 0, none⟩)) (hg : w.heap[g]? = some (.cells cs t (0, 0)))
  (hu : P.underlying ty = some d) (hd : (match d with | .struct _ | .array _ _ => true | _ => false) = true) (hi : (P.info? ty).map (·.size) = some cs.size)
  (hp2 : tmps.getD p2 undef = .pointer (some ⟨g2, 0, none⟩)) (hg2 : w.heap[g2]? = some (.cells cs2 t2 (0, 0)))
  (hu2 : P.underlying ty2 = some d2) (hd2 : (match d2 with | .struct _ | .array _ _ => true | _ => false) = true) (hi2 : (P.info? ty2).map (·.size) = some cs2.size) :
  (results fn tmps).run P w = .ok (.tuple #[.agg cs, .agg cs2, tmps.getD q undef]) w := by
 have hp' : tmps[p]?.getD undef = .pointer (some ⟨g, 0, none⟩) := by simpa using hp
 have hp2' : tmps[p2]?.getD undef = .pointer (some ⟨g2, 0, none⟩) := by simpa using hp2
 simp [results, h, hp', hp2', asAddr, run_loadVar_row w g t ty cs (0, 0) d hg hu hd hi, run_loadVar_row w g2 t2 ty2 cs2 (0, 0) d2 hg2 hu2 hd2 hi2]
theorem bk_ne15 {w : World} {g q : Nat} {cs ds : Array Value} {t u : TypeId} (h : Bk w g cs t) (k : Bk w q ds u) (hne : t ≠ u) : g ≠ q := by
 rintro rfl
 have h1 : w.heap[g]? = _ := h
 have h2 : w.heap[g]? = _ := k
 rw [h1] at h2
 injection h2 with h2
 injection h2 with _ h2
 exact hne h2
structure S3 (w v : World) (b : Nat) (p r o : Array Value) : Prop where
 s : S2 w v b p r
 o : Bk v (b + 2) o 58
section
variable {w v v' : World} {b q : Nat} {p r r' o o' : Array Value}
theorem S3.start (w : World) (p r o : Array Value) : S3 w (((w.alloc (.cells p 34)).alloc (.cells r 34)).alloc (.cells o 58)) w.heap.size p r o := by
 have s1 : ((w.alloc (.cells p 34)).alloc (.cells r 34)).heap.size = w.heap.size + 2 := by simp
 refine ⟨(S2.start w p r).next ((Below.refl _ _).alloc (Nat.le_refl _) _), ?_⟩
 rw [← s1]; exact Bk.new _ _ _
theorem S3.next (h : S3 w v b p r o) (k : Below v.heap.size v v') : S3 w v' b p r o := ⟨h.s.next k, h.o.next k⟩
theorem S3.on (h : S3 w v b p r o) (k : On q v v') (hq : b + 2 < q) : S3 w v' b p r o := ⟨h.s.on k (by omega), h.o.on k (by omega)⟩
theorem S3.ret1 (h : S3 w v b p r o) (k : On (b + 1) v v') (hr : Bk v' (b + 1) r' 34) : S3 w v' b p r' o := ⟨h.s.ret k hr, h.o.on k (by omega)⟩
theorem S3.ret2 (h : S3 w v b p r o) (k : On (b + 2) v v') (ho : Bk v' (b + 2) o' 58) : S3 w v' b p r o' := ⟨h.s.on k (by omega), ho⟩
theorem S3.lt (h : S3 w v b p r o) : b + 2 < v.heap.size := h.o.lt
theorem S3.bl (h : S3 w v b p r o) : Below w.heap.size w v := h.s.bl
end
theorem N5.low {v v' : World} {b m k1 k2 k3 k4 d1 d2 d3 d4 n q : Nat} {cs : Array Value} {X1 X2 X3 X4 : List Value} (h : N5 v b m k1 k2 k3 k4 d1 d2 d3 d4 n cs X1 X2 X3 X4) (k : On q v v') (hq : q ≤ b + 1) : N5 v' b m k1 k2 k3 k4 d1 d2 d3 d4 n cs X1 X2 X3 X4 := by
 obtain ⟨h0, h1, h2, h3, h4⟩ := h.lt
 refine ⟨h.o.on k (by omega), h.r.keep fun g hg => k.out.block g (h.r.lt g hg) fun e => ?_, h.lt, h.ne⟩
 have e8 := Option.some.inj e
 rcases hg with rfl | rfl | rfl | rfl <;> omega
theorem ask_is {N l : Nat} {W : Nat → Bool} (h : (ask N l W).2 = true) : W (ask N l W).1 = true := by
 rcases ask_cases N l W with ⟨i, h1, h2, h3, h4⟩ | ⟨h1, h4⟩
 ·rw [h4]; exact h2
 ·rw [h4] at h; cases h
theorem goes_is {S : RS} {p : Int} {may : Int → Bool} {k : Nat} (h : goesRt S p may k = true) : (S.ins.getD k zks).ph = 2 ∧ (S.ins.getD k zks).port = p ∧ ∃ x t, (S.ins.getD k zks).ws = x :: t := by
 unfold goesRt at h
 simp only [Bool.and_eq_true, decide_eq_true_eq] at h
 refine ⟨h.1, h.2.1, ?_⟩
 cases hw : (S.ins.getD k zks).ws with
 | nil => exact absurd hw h.2.2.1
 | cons x t => exact ⟨x, t, rfl⟩
theorem takeK_of {K : KS} {x : Nat} {t : List Nat} (h1 : K.ph = 2) (h2 : K.ws = x :: t) : takeK K = (nextK K x t, outK K x, 0) := by
 unfold takeK
 rw [if_pos h1, h2]
theorem mayB_at {L : List Bool} {k : Nat} : mayB L (k : Int) = (decide ((k : Int) < (L.length : Int)) && R12.wl L k) := by
 unfold mayB R12.wl
 rw [decide_eq_true (Int.natCast_nonneg k), Bool.true_and, Int.toNat_natCast]
theorem two_new (w : World) (cs ds : Array Value) (t t2 : TypeId) : Bk ((w.alloc (.cells cs t)).alloc (.cells ds t2)) w.heap.size cs t ∧ Bk ((w.alloc (.cells cs t)).alloc (.cells ds t2)) (w.heap.size + 1) ds t2 := by
 have s1 : (w.alloc (.cells cs t)).heap.size = w.heap.size + 1 := by simp
 refine ⟨(Bk.new w _ _).alloc _, ?_⟩
 rw [← s1]; exact Bk.new _ _ _
theorem below_new2 {w v v' : World} {o o2 : Obj} (h : On w.heap.size ((w.alloc o).alloc o2) v) (k : On (w.heap.size + 1) v v') : Below w.heap.size w v' :=
 ((((Below.refl _ _).alloc (Nat.le_refl _) _).alloc (by simp) _).grown h (by simp; omega) (fun q hq => by cases hq; exact Nat.le_refl _)).grown k (by have := h.size; simp at this; omega) (fun q hq => by cases hq; omega)
end Go.Proofs.YtmmegmonmilkcaaGreatDoor

namespace Go.Proofs.YtmmegmonmilkcaaGreatDoor
open Go.RowKit
theorem yields_bk {P : Program} {ops : Array Oper} {S : World → Prop} {o : Oper} {a : Act} (hgd : o.guard = none) (ty : TypeId) (x : Operand) (ho : o.op = .load ty x) (g : Nat) (hx : a.eval x = .pointer (some ⟨g, 0, none⟩)) {t : TypeId} {cs : Array Value} (d : TypeDesc)
  (hS : ∀ V, S V → Bk V g cs t) (hu : P.underlying ty = some d) (hd : (match d with | .struct _ | .array _ _ => true | _ => false) = true) (hi : (P.info? ty).map (·.size) = some cs.size) : YieldsIf P ops S o (.agg cs) a := by
 refine Or.inl ⟨by simp [Region.wanted, hgd], fun V hV => ?_⟩
 unfold execOp
 simp only [ho, hx, Instr.loadAt, Instr.sureAddr, Sem.run_bind, Sem.run_pure, Result.andThen_ok, run_loadVar_row V g t ty cs (0, 0) d (hS V hV) hu hd hi]
theorem step_store_bk {P : Program} {ops : Array Oper} {o : Oper} {a : Act} {K : Act → World → Prop} {Q : Exit → Act → World → Prop} {E : Prop} {w : World} (hgd : o.guard = none) (ty : TypeId) (x y : Operand) (ho : o.op = .store ty x y)
  (g : Nat) (cells : Array Value) (hx : a.eval x = .pointer (some ⟨g, 0, none⟩)) (hy : a.eval y = .agg cells) {t : TypeId} {old : Array Value} (hg : Bk w g old t) (hi : (P.info? ty).map (·.size) = some cells.size)
  (hold : old.size = cells.size) (h1 : cells.toList.all (·.oneCell') = true)
  (h : ∀ w', Bk w' g cells t → On g w w' → K (a.put o.dst undef) w') : if Region.wanted o (yielded ops a.tmps) = true then Oper.wp P o a w K Q else E := by
 have hw : Region.wanted o (yielded ops a.tmps) = true := by simp [Region.wanted, hgd]
 rw [if_pos hw]
 have hs := run_storeCells_at P g 0 t cells.toList 0 old w hg (by simp; omega) (fun v hv => List.all_eq_true.1 h1 v hv)
 have hr : (storeVar ty ⟨g, 0, none⟩ (.agg cells)).run P w = .ok () (w.setRow g (old.toList.take 0 ++ cells.toList ++ old.toList.drop (0 + cells.size)).toArray) := by
  cases hq : P.info? ty with
  | none => simp [hq] at hi
  | some i =>
   have hz : cells.size = i.size := by simp [hq] at hi; omega
   simp only [Nat.add_zero, Array.length_toList] at hs
   rw [hz] at hs ⊢
   simp [storeVar, sizeOf, typeInfo, hq, Value.cells, hz, hs]
 have hE : (old.toList.take 0 ++ cells.toList ++ old.toList.drop (0 + cells.size)).toArray = cells := by
  rw [List.take_zero, List.nil_append, Nat.zero_add, List.drop_of_length_le (by simp; omega), List.append_nil]
 rw [hE] at hr
 unfold Oper.wp execOp
 simp only [ho, hx, hy, Instr.storeAt, Instr.sureAddr, Sem.run_bind, Sem.run_pure, Result.andThen_ok, hr]
 unfold Oper.upon
 refine h _ (setRow_heap w g old _ t _ hg) ⟨rfl, rfl, rfl, by simp [World.setRow], fun q hq hne => ?_⟩
 have hne' : ¬ q = g := fun e => hne (by rw [e])
 simp [World.setRow, Array.getElem?_modify, Ne.symm hne']
theorem step_app_kat {P : Program} {ops : Array Oper} {o : Oper} {a : Act} {K : Act → World → Prop} {Q : Exit → Act → World → Prop} {E : Prop} (hgd : o.guard = none) (s x : Operand) (t e : TypeId) (i : TypeInfo) (z : Value) (k bytes : Nat)
  (ho : o.op = .call { callee := .builtin .append, args := #[s, x], argTypes := #[t, t] })
  (ht : P.underlying t = some (.slice e)) (hi : P.info? e = some i) (hz : i.zero = some z) (h1 : i.size = k) (hby : i.bytes = bytes) (hzs : z.cells.size = k) (hk0 : 0 < k) (hb8 : bytes ≤ 64)
  (B : Nat) (w : World) (v : Value) (n : Nat) (cs news : List Value) (g : Nat) (hs : a.eval s = v) (hown : OwnK e k w B v n cs) (hx : a.eval x = .slice (some ⟨g, 0, none⟩) 1 1)
  (hl : news.length = k) (hn : ∀ j u, news[j]? = some u → w.cell? ⟨g, j, none⟩ = some u) (hone : ∀ u ∈ news, u.oneCell' = true) (hlen : n ≤ 1000000) (hbase : B ≤ w.heap.size)
  (h : ∀ v' w', OwnK e k w' B v' (n + 1) (cs ++ news) → w.grownBy w' v.ownBlock → (v'.ownBlock = v.ownBlock ∨ v'.ownBlock = some w.heap.size) → K (a.put o.dst v') w') :
  if Region.wanted o (yielded ops a.tmps) = true then Oper.wp P o a w K Q else E := by
 have hw : Region.wanted o (yielded ops a.tmps) = true := by simp [Region.wanted, hgd]
 rw [if_pos hw]
 obtain ⟨v', w', hrun, h2, h3, _, h5⟩ := run_append_own_at (P := P) w B t o.type e i z k bytes ht hi hz h1 hby hzs hk0 v n cs hown ⟨g, 0, none⟩ 1 1 news (by rw [hl, Nat.one_mul])
  (fun j u hj => by rw [WideShapes.add_plain, Nat.zero_add]; exact hn j u hj) hone (by unfold maxLen; omega) (by have : (n + 1) * bytes ≤ (n + 1) * 64 := Nat.mul_le_mul_left _ hb8; omega) hbase
 unfold Oper.wp
 simp [execOp, ho, resolve, invoke, builtin, hs, hx, hrun, Result.andThen]
 exact h v' w' h2 h3 h5
end Go.Proofs.YtmmegmonmilkcaaGreatDoor

namespace Go.Proofs.YtmmegmonmilkcaaGreatDoor
open Go.RowKit
theorem wpList_app_kat {P : Program} {ops : Array Oper} {rest : List Oper} {o : Oper} {a : Act} {Q : Exit → Act → World → Prop} (hgd : o.guard = none) (s x : Operand) (t e : TypeId) (i : TypeInfo) (z : Value) (k bytes : Nat)
  (ho : o.op = .call { callee := .builtin .append, args := #[s, x], argTypes := #[t, t] })
  (ht : P.underlying t = some (.slice e)) (hi : P.info? e = some i) (hz : i.zero = some z) (h1 : i.size = k) (hby : i.bytes = bytes) (hzs : z.cells.size = k) (hk0 : 0 < k) (hb8 : bytes ≤ 64)
  (B : Nat) (w : World) (v : Value) (n : Nat) (L news : List Value) (hs : a.eval s = v) (hown : OwnK e k w B v n L) (g : Nat) (hx : a.eval x = .slice (some ⟨g, 0, none⟩) 1 1)
  (hl : news.length = k) (hn : ∀ j u, news[j]? = some u → w.cell? ⟨g, j, none⟩ = some u) (hone : ∀ u ∈ news, u.oneCell' = true) (hlen : n ≤ 1000000) (hbase : B ≤ w.heap.size)
  (h : ∀ v' w', OwnK e k w' B v' (n + 1) (L ++ news) → w.grownBy w' v.ownBlock → (v'.ownBlock = v.ownBlock ∨ v'.ownBlock = some w.heap.size) → wpList P ops Q rest (a.put o.dst v') w') :
  wpList P ops Q (o :: rest) a w := by
 refine wpList_append_own_at _ hgd s x t ho B e i z k bytes ht hi hz h1 hby hzs hk0 v n L hs hown ⟨g, 0, none⟩ 1 1 news hx (by rw [hl, Nat.one_mul]) ?_ hone ?_ ?_ hbase ?_
 ·intro j y hj
  rw [WideShapes.add_plain, Nat.zero_add]
  exact hn j y hj
 ·unfold maxLen; omega
 ·have : (n + 1) * bytes ≤ (n + 1) * 64 := Nat.mul_le_mul_left _ hb8
  omega
 ·intro v' w' hown' hgrow _ hp
  exact h v' w' hown' hgrow hp
theorem ownk_keep {e : TypeId} {k : Nat} {w w' : World} {B n : Nat} {v : Value} {l : List Value} (h : OwnK e k w B v n l) (hk : ∀ g, v.ownBlock = some g → g < w.heap.size → w'.heap[g]? = w.heap[g]?) : OwnK e k w' B v n l := by
 refine ⟨h.1, ?_⟩
 rcases h.2 with hn | ⟨g, cap, cur, e, hg, hh, r⟩
 ·exact Or.inl hn
 ·exact Or.inr ⟨g, cap, cur, e, hg, by rw [hk g (by rw [e]; rfl) (lt_of_heap hh)]; exact hh, r⟩
theorem ownk_apart {e t : TypeId} {k k2 : Nat} {w : World} {B n n2 q : Nat} {v v2 : Value} {l l2 : List Value} (h : OwnK e k w B v n l) (h2 : OwnK t k2 w B v2 n2 l2) (hne : e ≠ t) (hq : v.ownBlock = some q) : v2.ownBlock ≠ some q := by
 rcases h.2 with ⟨rfl, _⟩ | ⟨g, cap, cur, rfl, _, hh, _⟩
 ·simp [Value.ownBlock] at hq
 ·obtain rfl : g = q := by simpa [Value.ownBlock] using hq
  exact h2.ne (show Bk w g cur e from hh) (Ne.symm hne)
theorem lwc_one1 (x : LW) : ∀ u ∈ lwc x, u.oneCell' = true := fun u hu => by
 simp [lwc] at hu
 rcases hu with rfl | rfl | rfl | rfl | rfl | rfl <;> rfl
theorem fcl_one1 (N k : Nat) : ∀ u ∈ fcl N k, u.oneCell' = true := fun u hu => by
 simp [fcl] at hu
 rcases hu with rfl | rfl <;> rfl
theorem vi_one1 (x : Int) : ∀ u ∈ ([.int .i64 x] : List Value), u.oneCell' = true := fun u hu => by
 simp at hu
 rw [hu]
 rfl
theorem rep_snoc15 {α : Type} (i : Nat) (x : α) : List.replicate i x ++ [x] = List.replicate (i + 1) x := by rw [← List.replicate_succ']
theorem lrow_snoc (i : Nat) (x : LW) : lrow (List.replicate i x) ++ lwc x = lrow (List.replicate (i + 1) x) := by
 rw [← rep_snoc15]; simp [lrow]
theorem frow_snoc (N i x : Nat) : frow N (List.replicate i x) ++ fcl N x = frow N (List.replicate (i + 1) x) := by
 rw [← rep_snoc15]; simp [frow]
theorem vi_snoc15 (i : Nat) (x : Int) : vi (List.replicate i x) ++ [.int .i64 x] = vi (List.replicate (i + 1) x) := by
 rw [← rep_snoc15]; simp [vi]
structure W4 (w v : World) (b : Nat) (c : G.Cf) (node : Int) (n d : Nat) (x1 x2 x3 x4 : Value) (i1 i2 i3 i4 : Nat) : Prop where
 lt : w.heap.size + 1 < b
 bl : Below w.heap.size w v
 q : Bk v w.heap.size (G.cfc c) 23
 r : Bk v b (rrc c node x1 x2 x3 x4) 34
 o1 : OwnK 100 6 v (b + 1) x1 i1 (lrow (List.replicate i1 (newK d, none, 0)))
 o2 : OwnK 3 1 v (b + 1) x2 i2 (vi (List.replicate i2 (-1)))
 o3 : OwnK 103 2 v (b + 1) x3 i3 (frow n (List.replicate i3 0))
 o4 : OwnK 103 2 v (b + 1) x4 i4 (frow (5 * n) (List.replicate i4 0))
 ne : ∀ k, x3.ownBlock = some k → x4.ownBlock ≠ some k
section
variable {w v v' : World} {b n d i1 i2 i3 i4 : Nat} {c : G.Cf} {node : Int} {x1 x2 x3 x4 y : Value}
theorem W4.next (h : W4 w v b c node n d x1 x2 x3 x4 i1 i2 i3 i4) (k : Below v.heap.size v v') : W4 w v' b c node n d x1 x2 x3 x4 i1 i2 i3 i4 :=
 ⟨h.lt, h.bl.trans (k.mono h.bl.size), h.q.next k, h.r.next k, h.o1.below k, h.o2.below k, h.o3.below k, h.o4.below k, h.ne⟩
theorem W4.set1 (h : W4 w v b c node n d x1 x2 x3 x4 i1 i2 i3 i4) (o : OwnK 100 6 v' (b + 1) y (i1 + 1) (lrow (List.replicate i1 (newK d, none, 0)) ++ lwc (newK d, none, 0))) (g : v.grownBy v' x1.ownBlock) : W4 w (v'.setCell ⟨b, 10, none⟩ y) b c node n d y x2 x3 x4 (i1 + 1) i2 i3 i4 := by
 rw [lrow_snoc] at o
 have k : ∀ q, x1.ownBlock ≠ some q → q < v.heap.size → v'.heap[q]? = v.heap[q]? := fun q h1 h2 => g.block q h2 fun e => h1 e.symm
 have hl := h.lt
 have hbl : x1.ownBlock ≠ some b := fun e => by have := (h.o1.lt e).1; omega
 have hq : Bk v' w.heap.size _ _ := show v'.heap[w.heap.size]? = _ from (k _ (fun e => by have := (h.o1.lt e).1; omega) h.q.lt).trans h.q
 have hr : Bk v' b _ _ := show v'.heap[b]? = _ from (k b hbl h.r.lt).trans h.r
 exact ⟨h.lt, (h.bl.grown g h.bl.size fun q e => by have := (h.o1.lt e).1; have := h.lt; omega).setCell (show w.heap.size ≤ b by omega) _, hq.far (by omega), hr.set 10 y, o.far (Nat.lt_succ_self b),
  (ownk_keep h.o2 fun q e => k q fun e1 => ownk_apart h.o1 h.o2 (by decide) e1 e).far (Nat.lt_succ_self b), (ownk_keep h.o3 fun q e => k q fun e1 => ownk_apart h.o1 h.o3 (by decide) e1 e).far (Nat.lt_succ_self b),
  (ownk_keep h.o4 fun q e => k q fun e1 => ownk_apart h.o1 h.o4 (by decide) e1 e).far (Nat.lt_succ_self b), h.ne⟩
theorem W4.set2 (h : W4 w v b c node n d x1 x2 x3 x4 i1 i2 i3 i4) (o : OwnK 3 1 v' (b + 1) y (i2 + 1) (vi (List.replicate i2 (-1)) ++ [.int .i64 (-1)])) (g : v.grownBy v' x2.ownBlock) : W4 w (v'.setCell ⟨b, 11, none⟩ y) b c node n d x1 y x3 x4 i1 (i2 + 1) i3 i4 := by
 rw [vi_snoc15] at o
 have k : ∀ q, x2.ownBlock ≠ some q → q < v.heap.size → v'.heap[q]? = v.heap[q]? := fun q h1 h2 => g.block q h2 fun e => h1 e.symm
 have hl := h.lt
 have hbl : x2.ownBlock ≠ some b := fun e => by have := (h.o2.lt e).1; omega
 have hq : Bk v' w.heap.size _ _ := show v'.heap[w.heap.size]? = _ from (k _ (fun e => by have := (h.o2.lt e).1; omega) h.q.lt).trans h.q
 have hr : Bk v' b _ _ := show v'.heap[b]? = _ from (k b hbl h.r.lt).trans h.r
 exact ⟨h.lt, (h.bl.grown g h.bl.size fun q e => by have := (h.o2.lt e).1; have := h.lt; omega).setCell (show w.heap.size ≤ b by omega) _, hq.far (by omega), hr.set 11 y,
  (ownk_keep h.o1 fun q e => k q fun e1 => ownk_apart h.o2 h.o1 (by decide) e1 e).far (Nat.lt_succ_self b), o.far (Nat.lt_succ_self b), (ownk_keep h.o3 fun q e => k q fun e1 => ownk_apart h.o2 h.o3 (by decide) e1 e).far (Nat.lt_succ_self b),
  (ownk_keep h.o4 fun q e => k q fun e1 => ownk_apart h.o2 h.o4 (by decide) e1 e).far (Nat.lt_succ_self b), h.ne⟩
theorem W4.set3 (h : W4 w v b c node n d x1 x2 x3 x4 i1 i2 i3 i4) (o : OwnK 103 2 v' (b + 1) y (i3 + 1) (frow n (List.replicate i3 0) ++ fcl n 0)) (g : v.grownBy v' x3.ownBlock) (p : y.ownBlock = x3.ownBlock ∨ y.ownBlock = some v.heap.size) : W4 w (v'.setCell ⟨b, 12, none⟩ y) b c node n d x1 x2 y x4 i1 i2 (i3 + 1) i4 := by
 rw [frow_snoc] at o
 have k : ∀ q, x3.ownBlock ≠ some q → q < v.heap.size → v'.heap[q]? = v.heap[q]? := fun q h1 h2 => g.block q h2 fun e => h1 e.symm
 have hl := h.lt
 have hbl : x3.ownBlock ≠ some b := fun e => by have := (h.o3.lt e).1; omega
 have hq : Bk v' w.heap.size _ _ := show v'.heap[w.heap.size]? = _ from (k _ (fun e => by have := (h.o3.lt e).1; omega) h.q.lt).trans h.q
 have hr : Bk v' b _ _ := show v'.heap[b]? = _ from (k b hbl h.r.lt).trans h.r
 refine ⟨h.lt, (h.bl.grown g h.bl.size fun q e => by have := (h.o3.lt e).1; have := h.lt; omega).setCell (show w.heap.size ≤ b by omega) _, hq.far (by omega), hr.set 12 y,
  (ownk_keep h.o1 fun q e => k q fun e1 => ownk_apart h.o3 h.o1 (by decide) e1 e).far (Nat.lt_succ_self b), (ownk_keep h.o2 fun q e => k q fun e1 => ownk_apart h.o3 h.o2 (by decide) e1 e).far (Nat.lt_succ_self b), o.far (Nat.lt_succ_self b),
  (ownk_keep h.o4 fun q e => k q fun e1 => h.ne q e1 e).far (Nat.lt_succ_self b), fun q e1 e2 => ?_⟩
 rcases p with p | p
 ·exact h.ne q (p ▸ e1) e2
 ·have := (h.o4.lt e2).2
  rw [p] at e1
  cases e1
  omega
theorem W4.set4 (h : W4 w v b c node n d x1 x2 x3 x4 i1 i2 i3 i4) (o : OwnK 103 2 v' (b + 1) y (i4 + 1) (frow (5 * n) (List.replicate i4 0) ++ fcl (5 * n) 0)) (g : v.grownBy v' x4.ownBlock) (p : y.ownBlock = x4.ownBlock ∨ y.ownBlock = some v.heap.size) : W4 w (v'.setCell ⟨b, 13, none⟩ y) b c node n d x1 x2 x3 y i1 i2 i3 (i4 + 1) := by
 rw [frow_snoc] at o
 have k : ∀ q, x4.ownBlock ≠ some q → q < v.heap.size → v'.heap[q]? = v.heap[q]? := fun q h1 h2 => g.block q h2 fun e => h1 e.symm
 have hl := h.lt
 have hbl : x4.ownBlock ≠ some b := fun e => by have := (h.o4.lt e).1; omega
 have hq : Bk v' w.heap.size _ _ := show v'.heap[w.heap.size]? = _ from (k _ (fun e => by have := (h.o4.lt e).1; omega) h.q.lt).trans h.q
 have hr : Bk v' b _ _ := show v'.heap[b]? = _ from (k b hbl h.r.lt).trans h.r
 refine ⟨h.lt, (h.bl.grown g h.bl.size fun q e => by have := (h.o4.lt e).1; have := h.lt; omega).setCell (show w.heap.size ≤ b by omega) _, hq.far (by omega), hr.set 13 y,
  (ownk_keep h.o1 fun q e => k q fun e1 => ownk_apart h.o4 h.o1 (by decide) e1 e).far (Nat.lt_succ_self b), (ownk_keep h.o2 fun q e => k q fun e1 => ownk_apart h.o4 h.o2 (by decide) e1 e).far (Nat.lt_succ_self b),
  (ownk_keep h.o3 fun q e => k q fun e1 => h.ne q e e1).far (Nat.lt_succ_self b), o.far (Nat.lt_succ_self b), fun q e1 e2 => ?_⟩
 rcases p with p | p
 ·exact h.ne q e1 (p ▸ e2)
 ·have := (h.o3.lt e1).2
  rw [p] at e2
  cases e2
  omega
theorem W4.on {q : Nat} (h : W4 w v b c node n d x1 x2 x3 x4 i1 i2 i3 i4) (k : On q v v') (h1 : w.heap.size < q) (h2 : q < b) : W4 w v' b c node n d x1 x2 x3 x4 i1 i2 i3 i4 := by
 have hk : ∀ g, g ≠ q → g < v.heap.size → v'.heap[g]? = v.heap[g]? := fun g hne hl => k.out.block g hl fun e => hne (Option.some.inj e)
 exact ⟨h.lt, h.bl.grown k h.bl.size (fun x hx => by cases hx; omega), h.q.on k (by omega), h.r.on k (by omega), ownk_keep h.o1 fun g e => hk g (by have := (h.o1.lt e).1; omega), ownk_keep h.o2 fun g e => hk g (by have := (h.o2.lt e).1; omega),
  ownk_keep h.o3 fun g e => hk g (by have := (h.o3.lt e).1; omega), ownk_keep h.o4 fun g e => hk g (by have := (h.o4.lt e).1; omega), h.ne⟩
theorem W4.sl {e : TypeId} {k B i : Nat} {l : List Value} (h : OwnK e k v B y i l) : ∃ a cap, y = .slice a i cap ∧ i ≤ cap := by
 rcases h.2 with ⟨rfl, h2⟩ | ⟨g, cap, cur, rfl, hg, hh, hc1, hc2, hc3, hc4⟩
 ·exact ⟨none, 0, by rw [h2], by omega⟩
 ·exact ⟨_, _, rfl, hc1⟩
theorem W4.start {o : Obj} (hq : Bk v w.heap.size (G.cfc c) 23) (hb : Below w.heap.size w v) (h1 : w.heap.size + 1 < v.heap.size) (hr : Bk v' v.heap.size (rrc c node (.slice none 0 0) (.slice none 0 0) (.slice none 0 0) (.slice none 0 0)) 34) (k : On v.heap.size (v.alloc o) v') : W4 w v' v.heap.size c node n d (.slice none 0 0) (.slice none 0 0) (.slice none 0 0) (.slice none 0 0) 0 0 0 0 :=
 ⟨h1, hb.trans ((below_new k).mono hb.size), hq.next (below_new k), hr, OwnK.nil _ _ _ _, OwnK.nil _ _ _ _, OwnK.nil _ _ _ _, OwnK.nil _ _ _ _, fun k e => by cases e⟩
theorem W4.made (h : W4 w v b c node n d x1 x2 x3 x4 (5 * n) (5 * n) 5 5) (h1 : 1 ≤ n) : DR v c (newRt n d node) (rrv c node x1 x2 x3 x4) (fun g => w.heap.size ≤ g) := by
 obtain ⟨g1, c1, rfl, hg1, b1⟩ := h.o1.br (by omega)
 obtain ⟨g2, c2, rfl, hg2, b2⟩ := h.o2.br (by omega)
 obtain ⟨g3, c3, rfl, hg3, b3⟩ := h.o3.br (by omega)
 obtain ⟨g4, c4, rfl, hg4, b4⟩ := h.o4.br (by omega)
 have hb := h.lt
 have own : ∀ g m cap, (Value.slice (some ⟨g, 0, none⟩) m cap).ownBlock = some g := fun _ _ _ => rfl
 refine ⟨List.replicate (5 * n) (newK d, none, 0), g1, g2, g3, g4, c1, c2, c3, c4, rfl, by simp [newRt], ⟨b1, b2, b3, b4, ?_, ?_, ?_, ?_, ?_, ?_⟩, ⟨by omega, by omega, by omega, by omega⟩, fun x hx => ?_⟩
 ·exact fun e => ownk_apart h.o1 h.o2 (by decide) (own _ _ _) (by rw [e]; rfl)
 ·exact fun e => ownk_apart h.o1 h.o3 (by decide) (own _ _ _) (by rw [e]; rfl)
 ·exact fun e => ownk_apart h.o1 h.o4 (by decide) (own _ _ _) (by rw [e]; rfl)
 ·exact fun e => ownk_apart h.o2 h.o3 (by decide) (own _ _ _) (by rw [e]; rfl)
 ·exact fun e => ownk_apart h.o2 h.o4 (by decide) (own _ _ _) (by rw [e]; rfl)
 ·exact fun e => h.ne g3 rfl (by rw [e]; rfl)
 ·obtain rfl := List.eq_of_mem_replicate hx
  refine ⟨⟨fun j u hj => by simp [newK, vw] at hj, fun _ => ⟨rfl, rfl⟩, Nat.le_refl _, Nat.zero_le _⟩, fun h1 => absurd rfl h1⟩
end
end Go.Proofs.YtmmegmonmilkcaaGreatDoor
