/-
  The program's link in memory: its block, its lanes' block, its two rings; what a call keeps. No function in it.
-/
import Derived.Test.YtihfekcdghmkhaaLTwo
import Derived.Test.YtihfekcdghmkhaaLPlain
namespace Go.Proofs.Ytihfekcdghmkhaa
open Go.RowKit
open RC (Cl cc cv zc)

/-- Of a lane: the credits it has, its words that fly, those at the far end, its credits that come back. -/
def l4 (S : LS) (p j : Nat) : Value :=
  match j with
  | 0 => .int .i64 (S.cr.getD p 0)
  | 1 => .int .i64 (fly S.ws (p : Int) : Int)
  | 2 => .int .i64 (S.far.getD p 0)
  | _ => .int .i64 (com S.bk (p : Int) : Int)
def Lanes (S : LS) (cur : Array Value) : Prop := ∀ p, p < S.n → ∀ j, j < 4 → cur[p * 4 + j]? = some (l4 S p j)
theorem Lanes.put {S S' : LS} {cur : Array Value} (h : Lanes S cur) (hn : S'.n = S.n) {q i k : Nat} (hq : q < S.n) (hi : i < 4) (hk : k < 4) {x y : Value} (ho : ∀ p, p < S.n → ∀ j, j < 4 → (p = q → j ≠ i ∧ j ≠ k) → l4 S' p j = l4 S p j) (hx : l4 S' q i = x) (hy : l4 S' q k = y) :
    i ≠ k → Lanes S' ((cur.setIfInBounds (q * 4 + i) x).setIfInBounds (q * 4 + k) y) := by
  intro hne p hp j hj
  rw [hn] at hp
  have s1 : q * 4 + i < cur.size := (Array.getElem?_eq_some_iff.1 (h q hq i hi)).1
  have s2 : q * 4 + k < cur.size := (Array.getElem?_eq_some_iff.1 (h q hq k hk)).1
  simp only [Array.getElem?_setIfInBounds, Array.size_setIfInBounds]
  by_cases e : p = q
  · subst e
    by_cases e1 : j = k
    · subst e1
      rw [if_pos rfl, if_pos s2, hy]
    · rw [if_neg (by omega)]
      by_cases e2 : j = i
      · subst e2
        rw [if_pos rfl, if_pos s1, hx]
      · rw [if_neg (by omega), ho p hp j hj (fun _ => ⟨e2, e1⟩), h p hp j hj]
  · rw [if_neg (by omega), if_neg (by omega), ho p hp j hj (fun c => absurd c e), h p hp j hj]
theorem l4_of {S S' : LS} {p : Nat} (h0 : S'.cr.getD p 0 = S.cr.getD p 0) (h1 : fly S'.ws (p : Int) = fly S.ws (p : Int)) (h2 : S'.far.getD p 0 = S.far.getD p 0) (h3 : com S'.bk (p : Int) = com S.bk (p : Int)) (j : Nat) : l4 S' p j = l4 S p j := by
  unfold l4
  split
  · rw [h0]
  · rw [h1]
  · rw [h2]
  · rw [h3]
/-- The four of one lane, of two of which something turns. -/
theorem l4_two {S S' : LS} {p q i k : Nat} (far : p ≠ q → ∀ j, l4 S' p j = l4 S p j) (near : ∀ j, j < 4 → j ≠ i → j ≠ k → l4 S' q j = l4 S q j) : ∀ j, j < 4 → (p = q → j ≠ i ∧ j ≠ k) → l4 S' p j = l4 S p j := by
  intro j hj h
  by_cases e : p = q
  · subst e
    exact near j hj (h rfl).1 (h rfl).2
  · exact far e j

/-- The blocks that are no ring's. -/
def Xo (b q : Nat) : Nat → Prop := fun g => g = b ∨ g = q
structure LkAt (w : World) (b : Nat) (S : LS) (q cap : Nat) (cur : Array Value) (bi pi mi : Nat) (si : RI.RingSt) (bw pw mw : Nat) (sw : RC.RingSt) : Prop where
  two : Two w bi pi mi si bw pw mw sw (Xo b q)
  ne : b ≠ q
  cap1 : S.n ≤ cap
  cap2 : cap ≤ maxLen
  blk : Bk w b #[.pointer (some ⟨bw, 0, none⟩), .pointer (some ⟨bi, 0, none⟩), .slice (some ⟨q, 0, none⟩) S.n cap] 67
  row : Bk w q cur 70
  lanes : Lanes S cur
  ir : si.room = ((S.n * S.d : Nat) : Int)
  il : si.laid = false
  ix : si.xs = S.bk
  wr : sw.room = (S.r : Int)
  wl : sw.laid = false
  wx : sw.xs = S.ws
theorem LkAt.keep {w w' : World} {b : Nat} {S : LS} {q cap : Nat} {cur : Array Value} {bi pi mi : Nat} {si : RI.RingSt} {bw pw mw : Nat} {sw : RC.RingSt} (h : LkAt w b S q cap cur bi pi mi si bw pw mw sw) (hs : w.heap.size ≤ w'.heap.size) (key : ∀ g, fp bi pi bw pw (Xo b q) g → w'.heap[g]? = w.heap[g]?) : LkAt w' b S q cap cur bi pi mi si bw pw mw sw := by
  refine ⟨h.two.keep hs fun g e => key g (by rcases e with e | e | e | e <;> simp [fp, e]), h.ne, h.cap1, h.cap2, ?_, ?_, h.lanes, h.ir, h.il, h.ix, h.wr, h.wl, h.wx⟩
  · unfold Bk
    rw [key b (Or.inr (Or.inr (Or.inr (Or.inr (Or.inl rfl)))))]
    exact h.blk
  · unfold Bk
    rw [key q (Or.inr (Or.inr (Or.inr (Or.inr (Or.inr rfl)))))]
    exact h.row
theorem LkAt.next {w w' : World} {b : Nat} {S : LS} {q cap : Nat} {cur : Array Value} {bi pi mi : Nat} {si : RI.RingSt} {bw pw mw : Nat} {sw : RC.RingSt} (h : LkAt w b S q cap cur bi pi mi si bw pw mw sw) (hb : Below w.heap.size w w') : LkAt w' b S q cap cur bi pi mi si bw pw mw sw :=
  h.keep hb.size fun g hg => hb.block g (h.two.lt g hg)
/-- A link: its block, what it is as lists, its blocks. -/
def Lk (w : World) (b : Nat) (S : LS) (F : Nat → Prop) : Prop := Ok S ∧ ∃ q cap cur bi pi mi si bw pw mw sw, LkAt w b S q cap cur bi pi mi si bw pw mw sw ∧ F = fp bi pi bw pw (Xo b q)
section
variable {w : World} {b : Nat} {S : LS} {F : Nat → Prop}
theorem Lk.ok (h : Lk w b S F) : Ok S := h.1
theorem Lk.lt (h : Lk w b S F) : ∀ g, F g → g < w.heap.size := by
  obtain ⟨_, q, cap, cur, bi, pi, mi, si, bw, pw, mw, sw, h, rfl⟩ := h
  exact h.two.lt
theorem Lk.kept {w' : World} {r : Option Nat} (h : Lk w b S F) (hg : w.grownBy w' r) (hr : ∀ q, r = some q → ¬ F q) : Lk w' b S F := by
  obtain ⟨ok, q, cap, cur, bi, pi, mi, si, bw, pw, mw, sw, h, rfl⟩ := h
  have key : ∀ g, fp bi pi bw pw (Xo b q) g → w'.heap[g]? = w.heap[g]? := fun g hf => hg.block g (h.two.lt g hf) fun e => hr g e.symm hf
  exact ⟨ok, q, cap, cur, bi, pi, mi, si, bw, pw, mw, sw, h.keep hg.size key, rfl⟩
theorem Lk.next {w' : World} (h : Lk w b S F) (hb : Below w.heap.size w w') : Lk w' b S F := h.kept (r := none) ⟨hb.os, hb.tape, hb.output, hb.size, fun k hk _ => hb.block k hk⟩ (fun _ e => by cases e)
theorem Lk.far {k j : Nat} {x : Value} (h : Lk w b S F) (hk : ¬ F k) : Lk (w.setCell ⟨k, j, none⟩ x) b S F := h.kept (r := some k) ⟨rfl, rfl, rfl, by simp, fun i _ hne => Below.heap_setCell w ⟨k, j, none⟩ x i fun e => hne (by rw [e])⟩ (fun _ e => by cases e; exact hk)
theorem Lk.drewN (h : Lk w b S F) (n : Nat) : Lk (w.drewN n) b S F := h.next (dn (Below.refl _ _) n)
end

theorem RI.freed_laid {s : RI.RingSt} : (RI.freeS s).laid = s.laid := by unfold RI.freeS; split <;> rfl
theorem RI.freed_room {s : RI.RingSt} : (RI.freeS s).room = s.room := by unfold RI.freeS; split <;> rfl
theorem RI.freed_xs {s : RI.RingSt} : (RI.freeS s).xs = s.xs.tail := by
  unfold RI.freeS
  split
  · rename_i h; rw [h]; rfl
  · rfl
theorem RC.freed_laid {s : RC.RingSt} : (RC.freeS s).laid = s.laid := by unfold RC.freeS; split <;> rfl
theorem RC.freed_room {s : RC.RingSt} : (RC.freeS s).room = s.room := by unfold RC.freeS; split <;> rfl
theorem RC.freed_xs {s : RC.RingSt} : (RC.freeS s).xs = s.xs.tail := by
  unfold RC.freeS
  split
  · rename_i h; rw [h]; rfl
  · rfl
theorem RI.push_ok {s : RI.RingSt} (hl : s.laid = false) (hf : (s.xs.length : Int) < min (max s.room 1) 4096) (v : Int) : RI.layE s = 0 ∧ (RI.pushS s v).laid = false ∧ (RI.pushS s v).room = s.room ∧ (RI.pushS s v).xs = s.xs ++ [v] := by
  have e : RI.layE s = 0 := by
    unfold RI.layE RI.RingSt.free RI.one
    rw [hl]
    simp
    omega
  unfold RI.pushS
  rw [if_pos e]
  exact ⟨e, rfl, rfl, rfl⟩
theorem RC.push_ok {s : RC.RingSt} (hl : s.laid = false) (hf : (s.xs.length : Int) < min (max s.room 1) 4096) (v : Cl) : RC.layE s = 0 ∧ (RC.pushS s v).laid = false ∧ (RC.pushS s v).room = s.room ∧ (RC.pushS s v).xs = s.xs ++ [v] := by
  have e : RC.layE s = 0 := by
    unfold RC.layE RC.RingSt.free RC.one
    rw [hl]
    simp
    omega
  unfold RC.pushS
  rw [if_pos e]
  exact ⟨e, rfl, rfl, rfl⟩
end Go.Proofs.Ytihfekcdghmkhaa
