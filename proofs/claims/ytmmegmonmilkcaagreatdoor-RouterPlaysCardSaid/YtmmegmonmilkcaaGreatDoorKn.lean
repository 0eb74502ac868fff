/-
 A lane as a list: its steps, what always holds of it; a parcel's words going through (plain mathematics).
 Whose turn it is: plain mathematics.
 Slices that read as a list; blocks that hold given cells; what may have turned; rows of the call's own. No function in it, no type of the program's: for any seat.
 Whose turn it is: the program's object, its calls by contract; what is asked of one who wants.
 The program's lane in memory: its block, its ring of words; what a call keeps. No function in it.
 A ring of words that isn't there.
 The program's lane: what it keeps, as a value; what only reads.
 The program's lane: a new one; what is told of it; a word put; a lane given.
 The program's lane: the Head that waits; a way is asked for, and found. (Written by gen_kfind.py.)
 The program's lane: the first word is taken.
 The program's lane: the first word is taken, by contract; a lane that isn't there.
-/
import Derived.Test.YtmmegmonmilkcaaGreatDoorGoodR
import Derived.Test.YtmmegmonmilkcaaGreatDoorProg
import Derived.WalkKit
import Derived.BigQuiet
import Derived.Deep.QuietTactic
import Derived.WalkSpells
import Derived.WalkLawsBesides
import Derived.KernelRfl
import Derived.WalkSmall
import Derived.OwnWalk
import Derived.ProofKit
import Derived.Maps.AppendAt
import Derived.Deep.RegionHeld3
import Derived.Deep.CutRange
import Derived.Laws.OwnMore
import Derived.OrdersHeld
import Derived.Shelf.Abstract
import Derived.Defers
import Derived.Recover
import Derived.Test.YtmmegmonmilkcaaGreatDoorRu
import Derived.StillTailTactics
namespace Go.Proofs.YtmmegmonmilkcaaGreatDoor
structure KS where
 r : Nat
 ws : List Nat
 ph : Int
 port : Int
 lane : Int
 cp : Bool
structure KO where
 port : Int
 lane : Int
 word : Nat
 copy : Bool
 ends : Bool
def zko : KO := ⟨0, 0, 0, false, false⟩
def newK (n : Int) : KS := ⟨(min (max n 1) 64).toNat, [], 0, 0, 0, false⟩
def putK (S : KS) (x : Nat) : KS × Int := if S.r ≤ S.ws.length then (S, 7) else ({ S with ws := S.ws ++ [x] }, 0)
def hdK (x : Nat) : Bool := decide ((readR x).2 = 0) && decide ((readR x).1.k = 1)
def findK (S : KS) (node P : Int) : KS × Bool :=
 match S.ws with
 | [] => (S, false)
 | x :: _ =>
  if S.ph = 0 ∧ hdK x = true then
   if (readR x).1.d = node then ({ S with ph := 2, port := 0, lane := 0 }, true) else if 1 ≤ P ∧ P ≤ 4 then ({ S with ph := 1, port := P }, true) else (S, false)
  else (S, false)
def giveK (S : KS) (k : Int) : KS × Bool := if S.ph = 1 then ({ S with ph := 2, lane := k }, true) else (S, false)
def outK (S : KS) (x : Nat) : KO := ⟨S.port, S.lane, x, decide (S.port ≠ 0) && (S.cp && decide (x % 4 ≠ 1)), decide (x % 4 = 3)⟩
def nextK (S : KS) (x : Nat) (t : List Nat) : KS :=
 if x % 4 = 3 then { S with ws := t, ph := 0, port := 0, lane := 0, cp := false }
 else if x % 4 = 1 ∧ S.port = 0 ∧ (readR x).1.m = true then { S with ws := t, ph := 0, port := 0, lane := 0, cp := true }
 else { S with ws := t }
def takeK (S : KS) : KS × KO × Int :=
 if S.ph = 2 then
  match S.ws with
  | [] => (S, zko, 8)
  | x :: t => (nextK S x t, outK S x, 0)
 else (S, zko, 13)
structure KOk (S : KS) : Prop where
 r1 : 1 ≤ S.r
 r64 : S.r ≤ 64
 wl : S.ws.length ≤ S.r
 wi : ∀ x ∈ S.ws, x < 18446744073709551616
 ph : S.ph = 0 ∨ S.ph = 1 ∨ S.ph = 2
theorem KOk.new (n : Int) : KOk (newK n) := ⟨by show 1 ≤ (min (max n 1) 64).toNat; omega, by show (min (max n 1) 64).toNat ≤ 64; omega, by simp [newK], by simp [newK], Or.inl rfl⟩
theorem KOk.put {S : KS} (h : KOk S) {x : Nat} (hx : x < 18446744073709551616) : KOk (putK S x).1 := by
 unfold putK
 split
 ·exact h
 ·rename_i hl
  refine ⟨h.r1, h.r64, by simp; omega, fun y hy => ?_, h.ph⟩
  simp only [List.mem_append, List.mem_singleton] at hy
  rcases hy with hy | rfl
  ·exact h.wi y hy
  ·exact hx
theorem KOk.find {S : KS} (h : KOk S) (node P : Int) : KOk (findK S node P).1 := by
 unfold findK
 split
 ·exact h
 ·split
  ·split
   ·exact ⟨h.r1, h.r64, h.wl, h.wi, Or.inr (Or.inr rfl)⟩
   ·split
    ·exact ⟨h.r1, h.r64, h.wl, h.wi, Or.inr (Or.inl rfl)⟩
    ·exact h
  ·exact h
theorem KOk.give {S : KS} (h : KOk S) (k : Int) : KOk (giveK S k).1 := by
 unfold giveK
 split
 ·exact ⟨h.r1, h.r64, h.wl, h.wi, Or.inr (Or.inr rfl)⟩
 ·exact h
theorem KOk.take {S : KS} (h : KOk S) : KOk (takeK S).1 := by
 unfold takeK
 split
 ·split
  ·exact h
  ·rename_i x t e
   have hl := h.wl
   rw [e, List.length_cons] at hl
   have hi : ∀ y ∈ t, y < 18446744073709551616 := fun y hy => h.wi y (by rw [e]; exact List.mem_cons_of_mem _ hy)
   show KOk (nextK S x t)
   unfold nextK
   split
   ·exact ⟨h.r1, h.r64, by show t.length ≤ S.r; omega, hi, Or.inl rfl⟩
   ·split
    ·exact ⟨h.r1, h.r64, by show t.length ≤ S.r; omega, hi, Or.inl rfl⟩
    ·exact ⟨h.r1, h.r64, by show t.length ≤ S.r; omega, hi, h.ph⟩
 ·exact h
structure Wds (L : List Nat) (n : Nat) (D : Nat → Int) : Prop where
 n1 : 1 ≤ n
 len : n < L.length
 small : L.length ≤ 17
 lt : ∀ x ∈ L, x < 18446744073709551616
 hd : ∀ i, i < n → L.getD i 0 % 4 = 1 ∧ hdK (L.getD i 0) = true ∧ (readR (L.getD i 0)).1.d = D i ∧ (readR (L.getD i 0)).1.m = decide (i + 1 < n)
 bd : ∀ i, n ≤ i → i + 1 < L.length → L.getD i 0 % 4 = 2
 tl : L.getD (L.length - 1) 0 % 4 = 3
theorem wds_fine {P : Pc} (F : Fine P) : Wds P.ws P.hs.length fun i => (P.hs.getD i (0, 0)).1 := by
 obtain ⟨s1, s2⟩ := F.ws_small
 have l1 := F.l1
 have word : ∀ {f : Fl}, f.rightB = true → f.word % 4 = f.k := fun h => word_kind h
 refine ⟨l1, by omega, s1, ws_lt P, fun i hi => ?_, fun i h1 h2 => ?_, ?_⟩
 ·have hr := hd_right F.ok hi
  have e := readR_word hr
  have k := word hr
  rw [ws_head hi]
  refine ⟨?_, ?_, ?_, ?_⟩
  ·have : (hdF P i).k = 1 := rfl
   omega
  ·unfold hdK
   rw [e]
   rfl
  ·rw [e]
   rfl
  ·rw [e]
   rfl
 ·obtain ⟨j, rfl⟩ : ∃ j, i = P.hs.length + j := ⟨i - P.hs.length, by omega⟩
  have hj : j < nb P.x.size := by omega
  have k := word (bd_right hj)
  rw [ws_body hj]
  have : (bdF P.x j).k = 2 := rfl
  omega
 ·have k := word (tl_right P.x)
  have e : P.ws.length - 1 = P.hs.length + nb P.x.size := by omega
  rw [e, ws_tail]
  have : (tlF P.x).k = 3 := rfl
  omega
theorem drop_getD {L : List Nat} {i : Nat} (h : i < L.length) : L.drop i = L.getD i 0 :: L.drop (i + 1) := by
 rw [List.drop_eq_getElem_cons h]
 simp [List.getD_eq_getElem?_getD, List.getElem?_eq_getElem h]
theorem findK_at {S : KS} {x : Nat} {t : List Nat} (hw : S.ws = x :: t) (node P : Int) : findK S node P = if S.ph = 0 ∧ hdK x = true then (if (readR x).1.d = node then ({ S with ph := 2, port := 0, lane := 0 }, true) else if 1 ≤ P ∧ P ≤ 4 then ({ S with ph := 1, port := P }, true) else (S, false)) else (S, false) := by
 unfold findK
 rw [hw]
theorem takeK_at {S : KS} {x : Nat} {t : List Nat} (hp : S.ph = 2) (hw : S.ws = x :: t) : takeK S = (nextK S x t, outK S x, 0) := by
 unfold takeK
 rw [if_pos hp, hw]
theorem Wds.ends {L : List Nat} {n : Nat} {D : Nat → Int} (h : Wds L n D) {i : Nat} (hi : i < L.length) : L.getD i 0 % 4 = 3 ↔ i + 1 = L.length := by
 by_cases e1 : i < n
 ·have := (h.hd i e1).1
  have := h.len
  omega
 ·by_cases e2 : i + 1 < L.length
  ·have := h.bd i (by omega) e2
   omega
  ·obtain rfl : i = L.length - 1 := by omega
   have := h.tl
   omega
def passK (r : Nat) (L T : List Nat) (p ln : Int) (i : Nat) : KS := if i < L.length then ⟨r, L.drop i ++ T, 2, p, ln, false⟩ else ⟨r, T, 0, 0, 0, false⟩
theorem pass_find {r : Nat} {L : List Nat} {n : Nat} {D : Nat → Int} (h : Wds L n D) (T : List Nat) {p node : Int} (hD : D 0 ≠ node) (hp : 1 ≤ p ∧ p ≤ 4) :
  findK ⟨r, L ++ T, 0, 0, 0, false⟩ node p = (⟨r, L ++ T, 1, p, 0, false⟩, true) := by
 have hl := h.len
 have hd := h.hd 0 (by have := h.n1; omega)
 have e := drop_getD (L := L) (i := 0) (by omega)
 rw [List.drop_zero] at e
 have e2 : L ++ T = L.getD 0 0 :: (L.drop 1 ++ T) := by rw [← List.cons_append, ← e]
 rw [findK_at (show _ = _ from e2), if_pos ⟨rfl, hd.2.1⟩, if_neg (by rw [hd.2.2.1]; exact hD), if_pos hp]
theorem pass_give {r : Nat} {L : List Nat} (T : List Nat) (hl : 0 < L.length) (p ln : Int) : giveK ⟨r, L ++ T, 1, p, 0, false⟩ ln = (passK r L T p ln 0, true) := by
 unfold passK
 rw [if_pos hl, List.drop_zero]
 rfl
theorem pass_step {r : Nat} {L : List Nat} {n : Nat} {D : Nat → Int} (h : Wds L n D) (T : List Nat) {p ln : Int} (hp : p ≠ 0) {i : Nat} (hi : i < L.length) :
  takeK (passK r L T p ln i) = (passK r L T p ln (i + 1), ⟨p, ln, L.getD i 0, false, decide (i + 1 = L.length)⟩, 0) := by
 have e : passK r L T p ln i = ⟨r, L.drop i ++ T, 2, p, ln, false⟩ := by unfold passK; rw [if_pos hi]
 have e2 : L.drop i ++ T = L.getD i 0 :: (L.drop (i + 1) ++ T) := by rw [drop_getD hi]; rfl
 rw [e, takeK_at rfl (show _ = _ from e2)]
 have hk := h.ends hi
 unfold nextK outK passK
 simp only
 by_cases e3 : i + 1 = L.length
 ·rw [if_pos (hk.2 e3), if_neg (by omega), List.drop_eq_nil_of_le (by omega), decide_eq_true (hk.2 e3), decide_eq_true e3, Bool.false_and, Bool.and_false]
  rfl
 ·have ne : ¬ L.getD i 0 % 4 = 3 := fun c => e3 (hk.1 c)
  rw [if_neg ne, if_neg (fun c => hp c.2.1), if_pos (by omega), decide_eq_false ne, decide_eq_false e3, Bool.false_and, Bool.and_false]
end Go.Proofs.YtmmegmonmilkcaaGreatDoor
namespace Go.Proofs.YtmmegmonmilkcaaGreatDoor
def clampN (n : Int) : Nat := (min (max n 1) 4096).toNat
theorem clamp_pos (n : Int) : 0 < clampN n ∧ clampN n ≤ 4096 ∧ ((clampN n : Nat) : Int) = min (max n 1) 4096 := by
 unfold clampN
 omega
theorem clamp_id {n : Nat} (h1 : 0 < n) (h2 : n ≤ 4096) : clampN (n : Int) = n := by
 unfold clampN
 omega
def sel (N l : Nat) (W : Nat → Bool) : Option Nat := (List.range N).find? fun i => W ((l + i) % N)
def ask (N l : Nat) (W : Nat → Bool) : Nat × Bool :=
 match sel N l W with
 | some i => ((l + i) % N, true)
 | none => (0, false)
def nxtl (N l : Nat) (W : Nat → Bool) : Nat := if (ask N l W).2 = true then (ask N l W).1 + 1 else l
variable {N l : Nat} {W : Nat → Bool}
theorem ask_hit {i : Nat} (hi : i < N) (hw : W ((l + i) % N) = true) (hn : ∀ j, j < i → W ((l + j) % N) = false) : ask N l W = ((l + i) % N, true) := by
 have : sel N l W = some i := by
  unfold sel
  rw [List.find?_range_eq_some]
  exact ⟨hw, List.mem_range.2 hi, fun j hj => by rw [hn j hj]; rfl⟩
 unfold ask
 rw [this]
theorem ask_none (hn : ∀ j, j < N → W ((l + j) % N) = false) : ask N l W = (0, false) := by
 have : sel N l W = none := by
  unfold sel
  rw [List.find?_range_eq_none]
  exact fun j hj => by rw [hn j hj]; rfl
 unfold ask
 rw [this]
theorem ask_cases (N l : Nat) (W : Nat → Bool) : (∃ i, i < N ∧ W ((l + i) % N) = true ∧ (∀ j, j < i → W ((l + j) % N) = false) ∧ ask N l W = ((l + i) % N, true)) ∨ ((∀ j, j < N → W ((l + j) % N) = false) ∧ ask N l W = (0, false)) := by
 cases h : sel N l W with
 | none =>
  right
  have h1 := h
  unfold sel at h1
  rw [List.find?_range_eq_none] at h1
  have h2 : ∀ j, j < N → W ((l + j) % N) = false := fun j hj => by simpa using h1 j hj
  exact ⟨h2, ask_none h2⟩
 | some i =>
  left
  have h1 := h
  unfold sel at h1
  rw [List.find?_range_eq_some] at h1
  have h2 : ∀ j, j < i → W ((l + j) % N) = false := fun j hj => by simpa using h1.2.2 j hj
  exact ⟨i, List.mem_range.1 h1.2.1, h1.1, h2, ask_hit (List.mem_range.1 h1.2.1) h1.1 h2⟩
theorem ask_lt (h : 0 < N) : (ask N l W).1 < N := by
 rcases ask_cases N l W with ⟨i, _, _, _, e⟩ | ⟨_, e⟩
 ·rw [e]; exact Nat.mod_lt _ h
 ·rw [e]; exact h
theorem nxtl_le (h : 0 < N) (hl : l ≤ N) : nxtl N l W ≤ N := by
 have := ask_lt (l := l) (W := W) h
 unfold nxtl
 split <;> omega
theorem ask_ext {V : Nat → Bool} (h0 : 0 < N) (h : ∀ k, k < N → W k = V k) : ask N l W = ask N l V := by
 have : sel N l W = sel N l V := by
  unfold sel
  congr 1
  funext i
  exact h _ (Nat.mod_lt _ h0)
 unfold ask
 rw [this]
theorem ask_yes {k : Nat} (_h0 : 0 < N) (hl : l ≤ N) (hk : k < N) (hw : W k = true) : (ask N l W).2 = true ∧ W (ask N l W).1 = true := by
 rcases ask_cases N l W with ⟨i, _, h1, _, e⟩ | ⟨h1, e⟩
 ·rw [e]; exact ⟨rfl, h1⟩
 ·exfalso
  by_cases hc : l ≤ k
  ·have := h1 (k - l) (by omega)
   rw [show l + (k - l) = k by omega, Nat.mod_eq_of_lt hk, hw] at this
   cases this
  ·have := h1 (k + N - l) (by omega)
   rw [show l + (k + N - l) = k + N by omega, Nat.add_mod_right, Nat.mod_eq_of_lt hk, hw] at this
   cases this
end Go.Proofs.YtmmegmonmilkcaaGreatDoor
namespace Go.Proofs.YtmmegmonmilkcaaGreatDoor.FA
open Go.RowKit
def Rd (w : World) (a : Option Addr) (vs : List Value) : Prop :=
 ∀ (j : Nat) (v : Value), vs[j]? = some v → ∃ g off, a = some ⟨g, off, none⟩ ∧ g < w.heap.size ∧ w.cell? ⟨g, off + j, none⟩ = some v
theorem lt_of_heap {w : World} {b : Nat} {x : Obj} (h : w.heap[b]? = some x) : b < w.heap.size := by
 rcases Nat.lt_or_ge b w.heap.size with h' | h'
 ·exact h'
 ·rw [Array.getElem?_eq_none h'] at h; cases h
theorem cell_of {w : World} {b : Nat} {c : Array Value} {t : TypeId} {fr : Nat × Nat} (h : w.heap[b]? = some (.cells c t fr)) (k : Nat) : w.cell? ⟨b, k, none⟩ = c[k]? := by
 simp [World.cell?, h]
theorem Rd.keep {w w' : World} {a : Option Addr} {vs : List Value} (h : Rd w a vs) (hs : w.heap.size ≤ w'.heap.size) (hk : ∀ g, g < w.heap.size → w'.heap[g]? = w.heap[g]?) : Rd w' a vs := fun j v hj => by
 obtain ⟨g, off, h1, h2, h3⟩ := h j v hj
 exact ⟨g, off, h1, by omega, by rw [World.cell?_of_block (hk g h2)]; exact h3⟩
theorem Rd.below {w w' : World} {a : Option Addr} {vs : List Value} (h : Rd w a vs) (b : Below w.heap.size w w') : Rd w' a vs := h.keep b.size (fun g hg => b.block g hg)
theorem Rd.alloc {w : World} {a : Option Addr} {vs : List Value} (h : Rd w a vs) (o : Obj) : Rd (w.alloc o) a vs := h.keep (by simp) (fun g hg => Below.heap_alloc _ _ _ hg)
def Bk (v : World) (b : Nat) (cs : Array Value) (t : TypeId) : Prop := v.heap[b]? = some (.cells cs t (0, 0))
theorem Bk.cell {v : World} {b : Nat} {cs : Array Value} {t : TypeId} (h : Bk v b cs t) (j : Nat) : v.cell? ⟨b, j, none⟩ = cs[j]? := cell_of h j
theorem Bk.free {v : World} {b : Nat} {cs : Array Value} {t : TypeId} (h : Bk v b cs t) (j : Nat) : v.frozen? ⟨b, j, none⟩ = false := by
 unfold Bk at h
 simp [World.frozen?, h]
theorem Bk.lt {v : World} {b : Nat} {cs : Array Value} {t : TypeId} (h : Bk v b cs t) : b < v.heap.size := lt_of_heap h
theorem Bk.below {v v' : World} {B b : Nat} {cs : Array Value} {t : TypeId} (h : Bk v b cs t) (hb : Below B v v') (hB : b < B) : Bk v' b cs t := by
 unfold Bk
 rw [hb.block b hB]
 exact h
theorem Bk.next {v v' : World} {b : Nat} {cs : Array Value} {t : TypeId} (h : Bk v b cs t) (hb : Below v.heap.size v v') : Bk v' b cs t := h.below hb h.lt
theorem Bk.new (w : World) (cs : Array Value) (t : TypeId) : Bk (w.alloc (.cells cs t)) w.heap.size cs t := heap_alloc_new w _
theorem Bk.alloc {v : World} {b : Nat} {cs : Array Value} {t : TypeId} (h : Bk v b cs t) (o : Obj) : Bk (v.alloc o) b cs t := h.next ((Below.refl _ _).alloc (Nat.le_refl _) o)
theorem Bk.drew {v : World} {b : Nat} {cs : Array Value} {t : TypeId} (h : Bk v b cs t) : Bk v.drew b cs t := h
theorem Bk.far {v : World} {b k j : Nat} {cs : Array Value} {t : TypeId} {x : Value} (h : Bk v b cs t) (hne : b ≠ k) : Bk (v.setCell ⟨k, j, none⟩ x) b cs t := by
 unfold Bk
 rw [Below.heap_setCell v ⟨k, j, none⟩ _ b hne]
 exact h
theorem Bk.kept {v v' : World} {b : Nat} {cs : Array Value} {t : TypeId} {r : Option Nat} (h : Bk v b cs t) (hg : v.grownBy v' r) (hne : r ≠ some b) : Bk v' b cs t := by
 unfold Bk
 rw [hg.block b h.lt (fun e => hne e.symm)]
 exact h
theorem Bk.set {v : World} {b : Nat} {cs : Array Value} {t : TypeId} (h : Bk v b cs t) (k : Nat) (x : Value) : Bk (v.setCell ⟨b, k, none⟩ x) b (cs.setIfInBounds k x) t := by
 unfold Bk at h ⊢
 simp [World.setCell, Array.getElem?_modify, h]
def OwnK (e : TypeId) (k : Nat) (w : World) (B : Nat) (v : Value) (n : Nat) (cs : List Value) : Prop := w.ownsRow B e k v n cs
theorem OwnK.nil (w : World) (B : Nat) (e : TypeId) (k : Nat) : OwnK e k w B (.slice none 0 0) 0 [] := World.ownsRow_nil w B e k
theorem OwnK.below {e : TypeId} {k : Nat} {w w' : World} {B n : Nat} {v : Value} {cs : List Value} (h : OwnK e k w B v n cs) (hb : Below w.heap.size w w') : OwnK e k w' B v n cs := by
 refine ⟨h.1, ?_⟩
 rcases h.2 with hn | ⟨g, cap, cur, e, hg, hh, r⟩
 ·exact Or.inl hn
 ·exact Or.inr ⟨g, cap, cur, e, hg, by rw [hb.block g (lt_of_heap hh)]; exact hh, r⟩
theorem OwnK.far {e : TypeId} {k : Nat} {w : World} {B n b j : Nat} {v x : Value} {cs : List Value} (h : OwnK e k w B v n cs) (hb : b < B) : OwnK e k (w.setCell ⟨b, j, none⟩ x) B v n cs := by
 refine ⟨h.1, ?_⟩
 rcases h.2 with hn | ⟨g, cap, cur, e, hg, hh, r⟩
 ·exact Or.inl hn
 ·exact Or.inr ⟨g, cap, cur, e, hg, by rw [Below.heap_setCell w ⟨b, j, none⟩ _ g (by show g ≠ b; omega)]; exact hh, r⟩
theorem OwnK.rd {t : TypeId} {k : Nat} {w : World} {B n : Nat} {v : Value} {cs : List Value} (h : OwnK t k w B v n cs) (_hk : 0 < k) : ∃ a cap, v = .slice a n cap ∧ n ≤ cap ∧ cap ≤ maxLen ∧ Rd w a cs := by
 obtain ⟨h1, h2⟩ := h
 rcases h2 with ⟨rfl, h2⟩ | ⟨g, cap, cur, rfl, hg, hh, hc1, hc2, hc3, hc4⟩
 ·refine ⟨none, 0, by rw [h2], by omega, by simp [maxLen], fun j v hj => ?_⟩
  rw [h2, Nat.zero_mul] at h1
  have : cs = [] := List.eq_nil_of_length_eq_zero h1
  subst this
  cases hj
 ·refine ⟨_, _, rfl, hc1, hc2, fun j v hj => ⟨g, 0, rfl, lt_of_heap hh, ?_⟩⟩
  have hlt : j < n * k := by
   have := (List.getElem?_eq_some_iff.mp hj).1
   rw [← h1]; exact this
  rw [Nat.zero_add, cell_of hh]
  have : cur[j]? = (List.take (n * k) cur.toList)[j]? := by rw [List.getElem?_take_of_lt hlt]; simp
  rw [this, hc4]
  exact hj
theorem OwnK.lt {t : TypeId} {k : Nat} {w : World} {B n : Nat} {v : Value} {cs : List Value} (h : OwnK t k w B v n cs) {q : Nat} (hq : v.ownBlock = some q) : B ≤ q ∧ q < w.heap.size := World.ownsRow.lt h q hq
theorem OwnK.ne {e t : TypeId} {k : Nat} {w : World} {B n b : Nat} {v : Value} {l : List Value} {cs : Array Value} (h : OwnK e k w B v n l) (hg : Bk w b cs t) (hne : e ≠ t) : v.ownBlock ≠ some b := by
 rcases h.2 with ⟨rfl, _⟩ | ⟨g', cap, cur, rfl, _, hh, _⟩
 ·simp [Value.ownBlock]
 ·intro he
  have : g' = b := by simpa [Value.ownBlock] using he
  subst this
  unfold Bk at hg
  rw [hg] at hh
  injection hh with hh
  injection hh with _ ht
  exact hne ht.symm
theorem step_app_k {P : Program} {ops : Array Oper} {o : Oper} {a : Act} {K : Act → World → Prop} {Q : Exit → Act → World → Prop} {E : Prop} (hgd : o.guard = none) (s x : Operand) (t e : TypeId) (i : TypeInfo) (z : Value) (k bytes : Nat)
  (ho : o.op = .call { callee := .builtin .append, args := #[s, x], argTypes := #[t, t] })
  (ht : P.underlying t = some (.slice e)) (hi : P.info? e = some i) (hz : i.zero = some z) (h1 : i.size = k) (hby : i.bytes = bytes) (hzs : z.cells.size = k) (hk0 : 0 < k) (hb8 : bytes ≤ 64)
  (B : Nat) (w : World) (v : Value) (n : Nat) (cs news : List Value) (g : Nat) (hs : a.eval s = v) (hown : OwnK e k w B v n cs) (hx : a.eval x = .slice (some ⟨g, 0, none⟩) 1 1)
  (hl : news.length = k) (hn : ∀ j u, news[j]? = some u → w.cell? ⟨g, j, none⟩ = some u) (hone : ∀ u ∈ news, u.oneCell' = true) (hlen : n ≤ 1000000) (hbase : B ≤ w.heap.size)
  (h : ∀ v' w', OwnK e k w' B v' (n + 1) (cs ++ news) → w.grownBy w' v.ownBlock → K (a.put o.dst v') w') :
  if Region.wanted o (yielded ops a.tmps) = true then Oper.wp P o a w K Q else E := by
 have hw : Region.wanted o (yielded ops a.tmps) = true := by simp [Region.wanted, hgd]
 rw [if_pos hw]
 obtain ⟨v', w', hrun, h2, h3, _, _⟩ := run_append_own_at (P := P) w B t o.type e i z k bytes ht hi hz h1 hby hzs hk0 v n cs hown ⟨g, 0, none⟩ 1 1 news (by rw [hl, Nat.one_mul])
  (fun j u hj => by rw [WideShapes.add_plain, Nat.zero_add]; exact hn j u hj) hone (by unfold maxLen; omega) (by have : (n + 1) * bytes ≤ (n + 1) * 64 := Nat.mul_le_mul_left _ hb8; omega) hbase
 unfold Oper.wp
 simp [execOp, ho, resolve, invoke, builtin, hs, hx, hrun, Result.andThen]
 exact h v' w' h2 h3
def Own (e : TypeId) (w : World) (B : Nat) (v : Value) (l : List Value) : Prop := w.ownsRow B e 1 v l.length l
theorem Own.rd {t : TypeId} {w : World} {B : Nat} {v : Value} {l : List Value} (h : Own t w B v l) : ∃ a cap, v = .slice a l.length cap ∧ l.length ≤ cap ∧ cap ≤ maxLen ∧ Rd w a l := OwnK.rd (k := 1) h (by decide)
theorem Own.snoc {t : TypeId} {w : World} {B : Nat} {v x : Value} {l : List Value} (h : w.ownsRow B t 1 v (l.length + 1) (l ++ [x])) : Own t w B v (l ++ [x]) := by
 unfold Own
 simpa using h
theorem Own.nil (w : World) (B : Nat) (e : TypeId) : Own e w B (.slice none 0 0) [] := World.ownsRow_nil w B e 1
theorem Own.mono {e : TypeId} {w : World} {B B' : Nat} {v : Value} {l : List Value} (h : Own e w B v l) (hb : B' ≤ B) : Own e w B' v l := by
 refine ⟨h.1, ?_⟩
 rcases h.2 with hn | ⟨g, cap, cur, e, hg, r⟩
 ·exact Or.inl hn
 ·exact Or.inr ⟨g, cap, cur, e, Nat.le_trans hb hg, r⟩
theorem Own.lit {e : TypeId} {w : World} {B : Nat} (xs : Array Value) (hb : B ≤ w.heap.size) (hn : xs.size ≤ 1000) : Own e (w.alloc (.cells xs e)) B (.slice (some ⟨w.heap.size, 0, none⟩) xs.size xs.size) xs.toList := by
 have h := World.ownsRow_lit (e := e) (size := 1) (base := B) w xs xs.size hb (by unfold maxLen; omega) (by simp)
 unfold Own
 simpa using h
theorem own_ne {w : World} {B : Nat} {e t : TypeId} {v : Value} {l : List Value} {g : Nat} {C : Array Value} {fr : Nat × Nat} (h : Own e w B v l) (hg : w.heap[g]? = some (.cells C t fr)) (hne : e ≠ t) : v.ownBlock ≠ some g := by
 rcases h.2 with ⟨rfl, _⟩ | ⟨g', cap, cur, rfl, _, hh, _⟩
 ·simp [Value.ownBlock]
 ·intro he
  have : g' = g := by simpa [Value.ownBlock] using he
  subst this
  rw [hg] at hh
  injection hh with hh
  injection hh with _ ht
  exact hne ht.symm
theorem own_two {w : World} {B : Nat} {e t : TypeId} {v u : Value} {l k : List Value} (h : Own e w B v l) (h' : Own t w B u k) (hne : t ≠ e) : u.ownBlock = none ∨ u.ownBlock ≠ v.ownBlock := by
 rcases h'.2 with ⟨rfl, _⟩ | ⟨g', cap, cur, rfl, _, hh, _⟩
 ·exact Or.inl rfl
 ·refine Or.inr fun c => own_ne h hh (fun x => hne x.symm) ?_
  rw [← c]; rfl
def Kept (e : TypeId) (B : Nat) (w w' : World) : Prop :=
 w.heap.size ≤ w'.heap.size ∧ (∀ A, Below B A w → Below B A w') ∧
 (∀ (t : TypeId) (v : Value) (l : List Value), t ≠ e → Own t w B v l → Own t w' B v l) ∧
 (∀ (g : Nat) (C : Array Value) (t : TypeId) (fr : Nat × Nat), t ≠ e → w.heap[g]? = some (Obj.cells C t fr) → w'.heap[g]? = some (Obj.cells C t fr))
theorem wpList_app_one {P : Program} {ops : Array Oper} {rest : List Oper} {o : Oper} {a : Act} {Q : Exit → Act → World → Prop} (hgd : o.guard = none) (s x : Operand) (t e : TypeId) (i : TypeInfo) (z : Value) (bytes : Nat)
  (ho : o.op = .call { callee := .builtin .append, args := #[s, x], argTypes := #[t, t] })
  (ht : P.underlying t = some (.slice e)) (hi : P.info? e = some i) (hz : i.zero = some z) (h1 : i.size = 1) (hby : i.bytes = bytes) (hzs : z.cells.size = 1) (hb8 : bytes ≤ 64)
  (B : Nat) (w : World) (v : Value) (L : List Value) (u : Value) (hs : a.eval s = v) (hown : Own e w B v L) (hx : a.eval x = .slice (some ⟨w.heap.size, 0, none⟩) 1 1) (hu : u.oneCell' = true)
  (hlen : L.length ≤ 1000000) (hbase : B ≤ w.heap.size)
  (h : ∀ v' w', Own e w' B v' (L ++ [u]) → Kept e B w w' → wpList P ops Q rest (a.put o.dst v') w') :
  wpList P ops Q (o :: rest) a (w.alloc (.cells #[u] e)) := by
 refine wpList_append_own _ hgd s x t ho B e i z 1 bytes ht hi hz h1 hby hzs (by decide) v L.length L hs (World.ownsRow.alloc hown _) ⟨w.heap.size, 0, none⟩ 1 1 [u] hx rfl ?_ ?_ ?_ ?_ ?_ ?_
 ·intro j y hj
  match j, hj with
  | 0, hj => simp at hj; subst hj; exact (World.cell?_alloc_at _ _ _ _ rfl).trans rfl
 ·intro y hy; simp at hy; subst hy; exact hu
 ·unfold maxLen; omega
 ·have : (L.length + 1) * bytes ≤ (L.length + 1) * 64 := Nat.mul_le_mul_left _ hb8
  omega
 ·simp; omega
 ·intro v' w' hown' hgrow _
  have hsz : (w.alloc (.cells #[u] e)).heap.size ≤ w'.heap.size := (hgrow.size : _)
  simp at hsz
  refine h v' w' (Own.snoc hown') ⟨by omega, fun A hA => ?_, fun t' v2 l2 hne h2 => ?_, fun g C t' fr hne hg => ?_⟩
  ·exact Below.grown (hA.alloc hbase _) hgrow (by simp; omega) (fun q hq => (World.ownsRow.lt hown q hq).1)
  ·exact World.ownsRow.kept (World.ownsRow.alloc h2 _) hgrow (own_two hown h2 hne)
  ·rw [hgrow.block g (by have := lt_of_heap hg; simp; omega) (fun c => own_ne hown hg (fun x => hne x.symm) c.symm), Below.heap_alloc _ _ _ (lt_of_heap hg)]
   exact hg
theorem own_next {e : TypeId} {w w' : World} {B : Nat} {v : Value} {l : List Value} (h : Own e w B v l) (hb : Below w.heap.size w w') : Own e w' B v l := OwnK.below (k := 1) h hb
def Gb (b : Nat) (w w' : World) : Prop := w.grownBy w' (some b)
theorem Gb.out {b : Nat} {w w' : World} (h : Gb b w w') : w.grownBy w' (some b) := h
theorem Gb.size {b : Nat} {w w' : World} (h : Gb b w w') : w.heap.size ≤ w'.heap.size := h.out.size
theorem Gb.trans {b : Nat} {w v u : World} (h : Gb b w v) (k : Gb b v u) : Gb b w u :=
 ⟨k.out.os.trans h.out.os, k.out.tape.trans h.out.tape, k.out.output.trans h.out.output, Nat.le_trans h.size k.size, fun i hi hne => (k.out.block i (Nat.lt_of_lt_of_le hi h.size) hne).trans (h.out.block i hi hne)⟩
theorem Gb.of {b : Nat} {w v : World} (k : Below w.heap.size w v) : Gb b w v := ⟨k.os, k.tape, k.output, k.size, fun i hi _ => k.block i hi⟩
theorem Gb.set {b j : Nat} {w v : World} (h : Gb b w v) (x : Value) : Gb b w (v.setCell ⟨b, j, none⟩ x) :=
 h.trans ⟨rfl, rfl, rfl, by simp, fun k _ hne => Below.heap_setCell v ⟨b, j, none⟩ x k fun e => hne (by rw [e])⟩
theorem Bk.drewN {w : World} {b : Nat} {cs : Array Value} {t : TypeId} (h : Bk w b cs t) (n : Nat) : Bk (w.drewN n) b cs t := by
 unfold Bk
 rw [World.heap_drewN]
 exact h
theorem dn {B : Nat} {a w : World} (h : Below B a w) (n : Nat) : Below B a (w.drewN n) := h.trans ⟨rfl, rfl, rfl, Nat.le_refl _, fun _ _ => rfl⟩
end Go.Proofs.YtmmegmonmilkcaaGreatDoor.FA
namespace Go.Proofs.YtmmegmonmilkcaaGreatDoor.FA
open Go.RowKit
abbrev fc (N l : Nat) : Array Value := #[.int .i64 (N : Int), .int .i64 ((l : Int) - 1)]
abbrev oc (n : Int) (l : Nat) : Array Value := #[.int .i64 n, .int .i64 (l : Int)]
def Fb (v : World) (b N l : Nat) : Prop := l ≤ N ∧ ∃ n, clampN n = N ∧ Bk v b (oc n l) 167
theorem Fb.lt {v : World} {b N l : Nat} (h : Fb v b N l) : b < v.heap.size := by obtain ⟨_, n, _, h⟩ := h; exact h.lt
theorem Fb.below {v v' : World} {B b N l : Nat} (h : Fb v b N l) (hb : Below B v v') (hB : b < B) : Fb v' b N l := by obtain ⟨hl, n, e, h⟩ := h; exact ⟨hl, n, e, h.below hb hB⟩
theorem Fb.next {v v' : World} {b N l : Nat} (h : Fb v b N l) (hb : Below v.heap.size v v') : Fb v' b N l := h.below hb h.lt
theorem Fb.drewN {v : World} {b N l : Nat} (h : Fb v b N l) (n : Nat) : Fb (v.drewN n) b N l := by obtain ⟨hl, m, e, h⟩ := h; exact ⟨hl, m, e, h.drewN n⟩
theorem Fb.new (w : World) {n : Int} {N : Nat} (h : clampN n = N) : Fb (w.alloc (.cells (oc n 0) 167)) w.heap.size N 0 := ⟨Nat.zero_le _, n, h, Bk.new _ _ _⟩
theorem clamp_ways (n : Int) : (n < 1 ∧ ((clampN n : Nat) : Int) = 1) ∨ (1 ≤ n ∧ 4096 < n ∧ ((clampN n : Nat) : Int) = 4096) ∨ (1 ≤ n ∧ n ≤ 4096 ∧ ((clampN n : Nat) : Int) = n) := by
 have := (clamp_pos n).2.2
 omega
theorem new_any (n : Int) (w : World) : Calls Tryz.prog 81 #[.int .i64 n] w fun e w' => e = .returned (.pointer (some ⟨w.heap.size, 0, none⟩)) ∧ w' = w.alloc (.cells (oc n 0) 167) := by
 simp only [oc]
 go_enter Tryz.func81, Tryz.ntmps81
 go_wp2
 go_ret
 exact ⟨rfl, rfl⟩
theorem places_any {w : World} {b N l : Nat} (h : Fb w b N l) : Calls Tryz.prog 123 #[.pointer (some ⟨b, 0, none⟩)] w fun e w' => e = .returned (.int .i64 (N : Int)) ∧ w = w' := by
 obtain ⟨_, n, rfl, h⟩ := h
 have c0 := h.cell 0
 simp only [oc, List.getElem?_toArray, List.getElem?_cons_zero] at c0
 clear h
 rcases clamp_ways n with ⟨a, e⟩ | ⟨a, b, e⟩ | ⟨a, b, e⟩ <;> rw [e] <;> clear e
 all_goals
  go_enter Tryz.func123, Tryz.ntmps123
  go_wp2
  go_ret
  exact ⟨rfl, rfl⟩
def Ent (g : Nat) : Prop := ∀ (args : Array Value) (w : World), (callFunc g args).run Tryz.prog w = .ok (.enter g args) w
theorem catch_idle (p : Addr) (w : World) :
  CallsD Tryz.prog 141 #[.pointer (some p)] .returning w fun e u' w' => e = .returned (.tuple #[]) ∧ u' = .returning ∧ w' = w := by
 refine callsD_of_wpS Tryz.func141 rfl fun c₀ cs hu => ?_
 apply wpS_seq
 apply wpS_region
 simp [wpOpsS, go_sem, recoverD, hu, Tryz.ntmps141, Exit.thenS]
 refine wpS_cond (t := false) (by simp [Act.eval, Array.replicate]) ?_
 simp only [Bool.false_eq_true, if_false]
 refine wpS_of_wp (wp_skip ?_)
 cases c₀
 simp_all [bodyPostS, results, Tryz.results141]
def Up (S : Nat) (w w' : World) : Prop := w.heap.size ≤ w'.heap.size ∧ ∀ q, S ≤ q → q < w.heap.size → w'.heap[q]? = w.heap[q]?
theorem wants_any (g : Nat) (lb : Array Value) (eg : Ent g) (k : Int) (r : Bool) (R : World → Prop) (w : World)
  (hc : Calls Tryz.prog g (#[.int .i64 k] ++ lb) (w.alloc (.cells #[.bool false] 4)) fun e w'' => e = .returned (.bool r) ∧ R w'' ∧ Bk w'' w.heap.size #[.bool false] 4) :
  Calls Tryz.prog 124 #[.func (.func g) #[] lb, .int .i64 k] w fun e w' => e = .returned (.bool r) ∧ ∃ w'', R w'' ∧ w' = w''.setCell ⟨w.heap.size, 0, none⟩ (.bool r) := by
 have hmf : ∀ (fn : Fn) (first cap : Array Value) (w : World), (Instr.makeFunc fn first cap).run Tryz.prog w = .ok (.func fn first cap) w := fun _ _ _ _ => rfl
 have eg' : ∀ (args : Array Value) (w : World), (callFunc g args).run Tryz.prog w = .ok (.enter g args) w := eg
 clear eg
 go_enter_defers Tryz.func124, Tryz.ntmps124
 go_wp2_with fail
 go_at_fn g
 refine hc.mono ?_
 rintro e w2 ⟨rfl, hR, hB⟩
 have c0 := hB.cell 0
 have z0 := hB.free 0
 simp only [List.getElem?_toArray, List.getElem?_cons_zero] at c0
 go_wp2
 refine leaves_cons (f := 141) (args := #[.pointer (some ⟨w.heap.size, 0, none⟩)]) (by simp) (by simp [go_sem]) ?_
 refine (catch_idle ⟨w.heap.size, 0, none⟩ _).mono ?_
 rintro e u' w'' ⟨rfl, rfl, rfl⟩
 have c1 : (w2.setCell ⟨w.heap.size, 0, none⟩ (.bool r)).cell? ⟨w.heap.size, 0, none⟩ = some (.bool r) := by simpa using (hB.set 0 (.bool r)).cell 0
 simp [Leaves, settle, results, Tryz.results124, go_sem, c1]
 exact ⟨w2, hR, rfl⟩
set_option maxRecDepth 100000 in
set_option maxHeartbeats 4000000 in
theorem see_any (g : Nat) (lb : Array Value) (eg : Ent g) (N l : Nat) (h0 : 0 < N) (hN : N ≤ 4096) (hl : l ≤ N) (W : Nat → Bool) (I : Nat → World → Prop) (b : Nat)
  (w : World) (hb : Fb w b N l) (hd : ∀ i w' w'', I i w' → Below w.heap.size w' w'' → I i w'')
  (hc : ∀ i w', i < N → (∀ j, j < i → W ((l + j) % N) = false) → I i w' → Calls Tryz.prog g (#[.int .i64 (((l + i) % N : Nat) : Int)] ++ lb) w' fun e w'' => e = .returned (.bool (W ((l + i) % N))) ∧ I (i + 1) w'' ∧ Up w.heap.size w' w'')
  (hI : I 0 w) :
  Calls Tryz.prog 97 #[.pointer (some ⟨b, 0, none⟩), .func (.func g) #[] lb] w fun e w' => e = .returned (.tuple #[.int .i64 ((ask N l W).1 : Int), .bool (ask N l W).2]) ∧ ∃ n, I n w' ∧ 1 ≤ n ∧ n ≤ N ∧ ((ask N l W).2 = true → (ask N l W).1 = (l + (n - 1)) % N) ∧ ((ask N l W).2 = false → n = N) := by
 have wc : Hid (∀ i w', i < N → (∀ j, j < i → W ((l + j) % N) = false) → I i w' → w.heap.size ≤ w'.heap.size → Calls Tryz.prog 124 #[.func (.func g) #[] lb, .int .i64 (((l + i) % N : Nat) : Int)] w' fun e w'' => e = .returned (.bool (W ((l + i) % N))) ∧ I (i + 1) w'' ∧ w.heap.size ≤ w''.heap.size) := show _ from fun i w' hi hn hI hs => by
  refine (wants_any g lb eg _ (W ((l + i) % N)) (fun v => I (i + 1) v ∧ w'.heap.size ≤ v.heap.size) w' ((hc i _ hi hn (hd i w' _ hI ((Below.refl _ _).alloc hs _))).mono ?_)).mono ?_
  ·rintro e w'' ⟨rfl, h1, h2⟩
   have hsz : (w'.alloc (.cells #[.bool false] 4)).heap.size = w'.heap.size + 1 := by simp
   refine ⟨rfl, ⟨h1, by have := h2.1; omega⟩, ?_⟩
   unfold Bk
   rw [h2.2 _ hs (by omega)]
   exact Bk.new _ _ _
  ·rintro e w'' ⟨rfl, v, ⟨h1, h2⟩, rfl⟩
   exact ⟨rfl, hd _ _ _ h1 ((Below.refl _ _).setCell hs _), by simp; omega⟩
 have HI : Hid (I 0 w) := hI
 have HD : Hid (∀ i w' w'', I i w' → Below w.heap.size w' w'' → I i w'') := hd
 have PC := fun n => places_any (hb.drewN n)
 obtain ⟨_, n, -, hk⟩ := hb
 have c0 := hk.cell 1
 simp only [oc, sqg, sqh, sqt] at c0
 have hl1 : l < N ∨ l = N := by omega
 clear hd hc hI eg hk
 go_enter Tryz.func97, Tryz.ntmps97
 have hnf : ∀ w, (binOp .eql 66 (.func (.func g) #[] lb) .nilFunc).run Tryz.prog w = .ok (.bool false) w := fun w => by kernel_rfl
 go_wp2_with fail
 go_quiet ((go_at_call 123; exact Calls.quiet_of_same ((PC _).mono fun _ _ h => ⟨h.1, h.2.symm⟩)))
 have q4 : ¬ N = 0 := by omega
 go_wp2_with fail
 go_loopw [23] (fun x wr => ∃ i : Nat, i ≤ N ∧ x = .int .i64 i ∧ I i wr ∧ w.heap.size ≤ wr.heap.size ∧ ∀ j, j < i → W ((l + j) % N) = false) (fun x _ => N - (RowKit.intOf x).toNat)
 case atStart => exact ⟨0, Nat.zero_le _, rfl, HD.out _ _ _ HI.out (dn (Below.refl _ _) nq), Nat.le_of_eq (by rw [World.heap_drewN]), fun j hj => absurd hj (Nat.not_lt_zero _)⟩
 case round =>
  obtain ⟨i, hi, rfl, hI, hs, hn⟩ := hrel
  have HI2 : Hid (I i wr) := hI
  have HN : Hid (∀ j, j < i → W ((l + j) % N) = false) := hn
  clear HI hI hn c0 PC
  by_cases hlt : i < N
  case neg =>
   have e4 : ¬ (i : Int) < (N : Int) := by omega
   obtain rfl : i = N := by omega
   have ha : Hid (ask i l W = (0, false)) := ask_none HN.out
   go_wp2
   go_ret2
   rw [ha.out]
   exact ⟨rfl, i, HI2.out, h0, Nat.le_refl _, fun h => (by cases h), fun _ => rfl⟩
  have e4 : (i : Int) < (N : Int) := by omega
  have CC := wc.out i wr hlt HN.out HI2.out hs
  have em : (((l + i) % N : Nat) : Int) = ((l : Int) + (i : Int)) % (N : Int) := by
   rw [Int.natCast_emod, Int.natCast_add]
  simp only [em] at CC
  clear em
  cases hw : W ((l + i) % N) <;> simp only [hw] at CC
  ·have HN2 : Hid (∀ j, j < i + 1 → W ((l + j) % N) = false) := show _ from fun j hj => by
    rcases (by omega : j < i ∨ j = i) with h | rfl
    ·exact HN.out j h
    ·exact hw
   clear hw
   go_wp2_with (go_at_call 124; refine CC.mono ?_; rintro e w' ⟨rfl, hI', hs'⟩)
   go_roundw
   case rel => exact ⟨i + 1, by omega, by go_num, hI', hs', HN2.out⟩
   case measure => simp [RowKit.intOf]; omega
  ·have ha : Hid (ask N l W = ((l + i) % N, true)) := ask_hit hlt hw HN.out
   clear hw
   go_wp2_with (go_at_call 124; refine CC.mono ?_; rintro e w' ⟨rfl, hI', hs'⟩)
   go_ret2
   rw [ha.out]
   exact ⟨by simp, i + 1, hI', by omega, by omega, fun _ => rfl, fun h => by cases h⟩
def Grows (g : Nat) (lb : Array Value) (N : Nat) (W : Nat → Bool) (w : World) : Prop :=
 ∀ (V : World) (k : Nat), k < N → Below w.heap.size w V → Calls Tryz.prog g (#[.int .i64 (k : Int)] ++ lb) V fun e w' => e = .returned (.bool (W k)) ∧ Below V.heap.size V w'
theorem see_grows {g : Nat} {lb : Array Value} (eg : Ent g) {N l : Nat} (h0 : 0 < N) (hN : N ≤ 4096) (hl : l ≤ N) {W : Nat → Bool} {b : Nat} {w : World} (hb : Fb w b N l) (hp : Grows g lb N W w) :
  Calls Tryz.prog 97 #[.pointer (some ⟨b, 0, none⟩), .func (.func g) #[] lb] w fun e w' => e = .returned (.tuple #[.int .i64 ((ask N l W).1 : Int), .bool (ask N l W).2]) ∧ Below w.heap.size w w' := by
 refine (see_any g lb eg N l h0 hN hl W (fun _ V => Below w.heap.size w V) b w hb (fun _ V _ h h2 => h.trans h2) (fun i V _ _ h => ?_) (Below.refl _ _)).mono ?_
 ·refine (hp V _ (Nat.mod_lt _ h0) h).mono ?_
  rintro e w' ⟨rfl, h2⟩
  exact ⟨rfl, h.trans (h2.mono h.size), h2.size, fun q _ hq => h2.block q hq⟩
 ·rintro e w' ⟨rfl, n, h, -⟩
  exact ⟨rfl, h⟩
theorem next_grows {g : Nat} {lb : Array Value} (eg : Ent g) {N l : Nat} (h0 : 0 < N) (hN : N ≤ 4096) (hl : l ≤ N) {W : Nat → Bool} {b : Nat} {w : World} (hb : Fb w b N l) (hp : Grows g lb N W w) :
  Calls Tryz.prog 61 #[.pointer (some ⟨b, 0, none⟩), .func (.func g) #[] lb] w fun e w' => e = .returned (.tuple #[.int .i64 ((ask N l W).1 : Int), .bool (ask N l W).2]) ∧ Fb w' b N (nxtl N l W) ∧ Gb b w w' := by
 have SC := see_grows eg h0 hN hl hb hp
 have HB : Hid (Fb w b N l) := hb
 have hx : nxtl N l W = if (ask N l W).2 = true then (ask N l W).1 + 1 else l := rfl
 have hk : (ask N l W).1 < N := ask_lt h0
 generalize nxtl N l W = l2 at *
 generalize ask N l W = r at *
 obtain ⟨k, is⟩ := r
 clear hb hp eg
 cases is
 ·simp only [Bool.false_eq_true, if_false] at hx
  subst hx
  go_enter Tryz.func61, Tryz.ntmps61
  go_wp2_with fail
  go_at_call 97
  with_reducible refine SC.mono ?_
  rintro e w1 ⟨rfl, h1⟩
  have H1 : Hid (Below w.heap.size w w1) := h1
  clear SC h1
  go_wp2
  go_ret2
  exact ⟨rfl, HB.out.next H1.out, Gb.of H1.out⟩
 ·simp only [if_true] at hx
  subst hx
  simp only at hk
  go_enter Tryz.func61, Tryz.ntmps61
  go_wp2_with fail
  go_at_call 97
  with_reducible refine SC.mono ?_
  rintro e w1 ⟨rfl, h1⟩
  have H1 : Hid (Below w.heap.size w w1) := h1
  have B1 : Hid (Fb w1 b N l) := HB.out.next h1
  obtain ⟨_, n, en, kk⟩ := B1.out
  have EN : Hid (clampN n = N) := en
  have KK : Hid (Bk w1 b (oc n l) 167) := kk
  have c1 := kk.cell 1
  have z1 := kk.free 1
  simp only [oc, sqg, sqh, sqt] at c1
  clear SC h1 HB B1 en kk
  go_wp2
  go_ret2
  refine ⟨rfl, ⟨by omega, n, EN.out, ?_⟩, (Gb.of H1.out).set _⟩
  have := KK.out.set 1 (.int .i64 ((k : Int) + 1))
  simpa [oc] using this
end Go.Proofs.YtmmegmonmilkcaaGreatDoor.FA
namespace Go.Proofs.YtmmegmonmilkcaaGreatDoor
open Go.RowKit
abbrev koc (o : KO) : Array Value := (zq4 o.port o.lane (o.word : Int) o.copy o.ends)
abbrev kov (o : KO) : Value := .agg (koc o)
def Ent (g : Nat) : Prop := ∀ (args : Array Value) (w : World), (callFunc g args).run Tryz.prog w = .ok (.enter g args) w
def On (b : Nat) (w w' : World) : Prop := w.grownBy w' (some b)
theorem On.out {b : Nat} {w w' : World} (h : On b w w') : w.grownBy w' (some b) := h
theorem On.refl (b : Nat) (w : World) : On b w w := ⟨rfl, rfl, rfl, Nat.le_refl _, fun _ _ _ => rfl⟩
theorem On.size {b : Nat} {w w' : World} (h : On b w w') : w.heap.size ≤ w'.heap.size := h.out.size
theorem On.trans {b : Nat} {w v u : World} (h : On b w v) (k : On b v u) : On b w u :=
 ⟨k.out.os.trans h.out.os, k.out.tape.trans h.out.tape, k.out.output.trans h.out.output, Nat.le_trans h.size k.size, fun i hi hne => (k.out.block i (Nat.lt_of_lt_of_le hi h.size) hne).trans (h.out.block i hi hne)⟩
theorem On.of {b : Nat} {w v : World} (k : Below w.heap.size w v) : On b w v := ⟨k.os, k.tape, k.output, k.size, fun i hi _ => k.block i hi⟩
theorem On.below {b : Nat} {w v u : World} (h : On b w v) (k : Below v.heap.size v u) : On b w u := h.trans (On.of k)
theorem On.set {b : Nat} {w v : World} (h : On b w v) (j : Nat) (x : Value) : On b w (v.setCell ⟨b, j, none⟩ x) :=
 h.trans ⟨rfl, rfl, rfl, by simp, fun k _ hne => Below.heap_setCell v ⟨b, j, none⟩ x k fun e => hne (by rw [e])⟩
theorem On.drewN {b : Nat} {w v : World} (h : On b w v) (n : Nat) : On b w (v.drewN n) := h.below ⟨rfl, rfl, rfl, Nat.le_refl _, fun _ _ => rfl⟩
theorem On.gr {b : Nat} {w w' : World} {F : Nat → Prop} (h : On b w w') (hF : F b) : Gr F w w' F :=
 ⟨h.out.os, h.out.tape, h.out.output, h.size, fun k hk hn => h.out.block k hk fun e => hn (by cases e; exact hF), fun _ h => Or.inl h⟩
theorem Bk.on {v v' : World} {b k : Nat} {cs : Array Value} {t : TypeId} (h : Bk v b cs t) (hg : On k v v') (hne : ¬ b = k) : Bk v' b cs t := by
 unfold Bk
 rw [hg.out.block b h.lt fun e => hne (by cases e; rfl)]
 exact h
theorem Bk.drewN {w : World} {b : Nat} {cs : Array Value} {t : TypeId} (h : Bk w b cs t) (n : Nat) : Bk (w.drewN n) b cs t := by
 unfold Bk
 rw [World.heap_drewN]
 exact h
def wz (l : List Nat) : List Int := l.map fun (x : Nat) => (x : Int)
abbrev stc (S : KS) (r : Nat) : Array Value := (zq8 (some ⟨r, 0, none⟩) S.ph S.port S.lane S.cp)
structure KnAt (w : World) (b : Nat) (S : KS) (r pr mr : Nat) (sr : RU.RingSt) : Prop where
 lz : S.ph ≠ 2 → S.lane = 0
 blk : Bk w b (stc S r) 162
 rg : RU.RingAt w r pr mr sr
 ne : b ≠ r ∧ b ≠ pr
 room : sr.room = (S.r : Int)
 laid : sr.laid = false
 xs : sr.xs = wz S.ws
def fk (b r pr : Nat) : Nat → Prop := fun g => g = b ∨ g = r ∨ g = pr
section
variable {w : World} {b : Nat} {S : KS} {r pr mr : Nat} {sr : RU.RingSt}
theorem KnAt.lt (h : KnAt w b S r pr mr sr) : ∀ g, fk b r pr g → g < w.heap.size := by
 rintro g (rfl | rfl | rfl)
 ·exact h.blk.lt
 ·exact h.rg.lt.1
 ·exact h.rg.lt.2
theorem KnAt.keep {w' : World} (h : KnAt w b S r pr mr sr) (key : ∀ g, fk b r pr g → w'.heap[g]? = w.heap[g]?) : KnAt w' b S r pr mr sr :=
 ⟨h.lz, by unfold Bk; rw [key b (Or.inl rfl)]; exact h.blk, h.rg.keep (key r (Or.inr (Or.inl rfl))) (key pr (Or.inr (Or.inr rfl))), h.ne, h.room, h.laid, h.xs⟩
theorem KnAt.next {w' : World} (h : KnAt w b S r pr mr sr) (hb : Below w.heap.size w w') : KnAt w' b S r pr mr sr := h.keep fun g hg => hb.block g (h.lt g hg)
theorem KnAt.turn {w' : World} {S' : KS} (h : KnAt w b S r pr mr sr) (ho : On b w w') (hb : Bk w' b (stc S' r) 162) (e1 : S'.r = S.r) (e2 : S'.ws = S.ws) (lz : S'.ph ≠ 2 → S'.lane = 0) : KnAt w' b S' r pr mr sr :=
 ⟨lz, hb, h.rg.keep (ho.out.block r h.rg.lt.1 fun e => h.ne.1 (Option.some.inj e).symm) (ho.out.block pr h.rg.lt.2 fun e => h.ne.2 (Option.some.inj e).symm), h.ne, by rw [e1]; exact h.room, h.laid, by rw [e2]; exact h.xs⟩
theorem KnAt.step {w' : World} {S' : KS} {sr' : RU.RingSt} (h : KnAt w b S r pr mr sr) (s : RU.Stp r pr w w' sr') (hv : stc S' r = stc S r) (e1 : S'.r = S.r) (lz : S'.ph ≠ 2 → S'.lane = 0) (k1 : sr'.room = sr.room) (k2 : sr'.laid = false) (k3 : sr'.xs = wz S'.ws) :
  ∃ pr' mr', KnAt w' b S' r pr' mr' sr' ∧ Gr (fk b r pr) w w' (fk b r pr') := by
 obtain ⟨p', m', hr, hf, hp⟩ := s
 have hb := h.blk.lt
 refine ⟨p', m', ⟨lz, ?_, hr, ⟨h.ne.1, ?_⟩, by rw [k1, e1]; exact h.room, k2, k3⟩, ⟨hf.os, hf.tape, hf.output, hf.size, fun g hg hn => hf.block g hg (fun e => hn (Or.inr (Or.inl e))) (fun e => hn (Or.inr (Or.inr e))), ?_⟩⟩
 ·unfold Bk
  rw [hf.block b hb h.ne.1 h.ne.2, hv]
  exact h.blk
 ·rcases hp with rfl | hp
  ·exact h.ne.2
  ·omega
 ·rintro g (e | e | e)
  ·exact Or.inl (Or.inl e)
  ·exact Or.inl (Or.inr (Or.inl e))
  ·rcases hp with hp | hp
   ·exact Or.inl (Or.inr (Or.inr (e.trans hp)))
   ·exact Or.inr (e ▸ hp)
end
def Kn (w : World) (b : Nat) (S : KS) (F : Nat → Prop) : Prop := KOk S ∧ ∃ r pr mr sr, KnAt w b S r pr mr sr ∧ F = fk b r pr
section
variable {w : World} {b : Nat} {S : KS} {F : Nat → Prop}
theorem Kn.ok (h : Kn w b S F) : KOk S := h.1
theorem Kn.lt (h : Kn w b S F) : ∀ g, F g → g < w.heap.size := by
 obtain ⟨_, r, pr, mr, sr, h, rfl⟩ := h
 exact h.lt
theorem Kn.kept {w' : World} {r : Option Nat} (h : Kn w b S F) (hg : w.grownBy w' r) (hr : ∀ q, r = some q → ¬ F q) : Kn w' b S F := by
 obtain ⟨ok, r0, pr, mr, sr, h, rfl⟩ := h
 exact ⟨ok, r0, pr, mr, sr, h.keep fun g hf => hg.block g (h.lt g hf) fun e => hr g e.symm hf, rfl⟩
theorem Kn.next {w' : World} (h : Kn w b S F) (hb : Below w.heap.size w w') : Kn w' b S F := h.kept (r := none) ⟨hb.os, hb.tape, hb.output, hb.size, fun k hk _ => hb.block k hk⟩ (fun _ e => by cases e)
theorem Kn.far {k j : Nat} {x : Value} (h : Kn w b S F) (hk : ¬ F k) : Kn (w.setCell ⟨k, j, none⟩ x) b S F := h.kept (r := some k) ⟨rfl, rfl, rfl, by simp, fun i _ hne => Below.heap_setCell w ⟨k, j, none⟩ x i fun e => hne (by rw [e])⟩ (fun _ e => by cases e; exact hk)
end
theorem push_kn {S : KS} {s : RU.RingSt} (ok : KOk S) (hr : s.room = (S.r : Int)) (hl : s.laid = false) (hx : s.xs = wz S.ws) (x : Nat) :
  RU.layE s = (putK S x).2 ∧ (RU.pushS s (x : Int)).room = s.room ∧ (RU.pushS s (x : Int)).laid = false ∧ (RU.pushS s (x : Int)).xs = wz (putK S x).1.ws := by
 have r1 := ok.r1
 have r64 := ok.r64
 have wl := ok.wl
 have hlen : s.xs.length = S.ws.length := by rw [hx]; simp [wz]
 have hfree : s.free = (S.r : Int) - (S.ws.length : Int) := by
  rw [RU.RingSt.free, hr, hl, hlen]
  simp [RU.one]
  omega
 unfold putK
 by_cases h : S.r ≤ S.ws.length
 ·have e : RU.layE s = 7 := by
   unfold RU.layE
   rw [hl, hfree, if_neg (by decide), if_pos (by omega)]
  rw [if_pos h]
  unfold RU.pushS
  rw [e, if_neg (by decide)]
  exact ⟨rfl, rfl, hl, hx⟩
 ·have e : RU.layE s = 0 := by
   unfold RU.layE
   rw [hl, hfree, if_neg (by decide), if_neg (by omega)]
  rw [if_neg h]
  unfold RU.pushS
  rw [if_pos e]
  refine ⟨e, rfl, rfl, ?_⟩
  show s.xs ++ [(x : Int)] = wz (S.ws ++ [x])
  rw [hx]
  simp [wz]
theorem putK_same (S : KS) (x : Nat) : (putK S x).1.r = S.r ∧ (putK S x).1.ph = S.ph ∧ (putK S x).1.port = S.port ∧ (putK S x).1.lane = S.lane ∧ (putK S x).1.cp = S.cp := by
 unfold putK
 split <;> exact ⟨rfl, rfl, rfl, rfl, rfl⟩
theorem RU.freed_same {s : RU.RingSt} : (RU.freeS s).laid = s.laid ∧ (RU.freeS s).room = s.room ∧ (RU.freeS s).xs = s.xs.tail := by
 unfold RU.freeS
 split
 ·rename_i h; rw [h]; exact ⟨rfl, rfl, rfl⟩
 ·exact ⟨rfl, rfl, rfl⟩
abbrev stn : Array Value := (zq8 none 0 0 0 false)
end Go.Proofs.YtmmegmonmilkcaaGreatDoor
namespace Go.Proofs.YtmmegmonmilkcaaGreatDoor.RU
open Go.RowKit
theorem rgnil_len (w : World) : Calls Tryz.prog 104 #[.pointer none] w fun e w' => e = .returned (.int .i64 0) ∧ w = w' := by
 go_enter Tryz.func104, Tryz.ntmps104
 go_wp2
 go_ret
 exact ⟨rfl, rfl⟩
theorem rgnil_room (w : World) : Calls Tryz.prog 105 #[.pointer none] w fun e w' => e = .returned (.int .i64 0) ∧ w = w' := by
 go_enter Tryz.func105, Tryz.ntmps105
 go_wp2
 go_ret
 exact ⟨rfl, rfl⟩
theorem rgnil_lay (v : Int) (w : World) : Calls Tryz.prog 109 #[.pointer none, .int .u64 v] w fun e w' => e = .returned (.int .i64 1) ∧ w = w' := by
 go_enter Tryz.func109, Tryz.ntmps109
 go_wp2
 go_ret
 exact ⟨rfl, rfl⟩
theorem rgnil_push (v : Int) (w : World) : Calls Tryz.prog 84 #[.pointer none, .int .u64 v] w fun e w' => e = .returned (.int .i64 1) ∧ w = w' := by
 have L := rgnil_lay v w
 go_enter Tryz.func84, Tryz.ntmps84
 go_wp2_with (go_at_call 109; with_reducible refine L.mono ?_; rintro e w' ⟨rfl, rfl⟩)
 go_ret
 exact ⟨rfl, rfl⟩
end Go.Proofs.YtmmegmonmilkcaaGreatDoor.RU
namespace Go.Proofs.YtmmegmonmilkcaaGreatDoor
open Go.RowKit
theorem look_nil (w : World) : Calls Tryz.prog 83 #[.pointer none] w fun e w' => e = .returned (.agg stn) ∧ Below w.heap.size w w' := by
 have B0 : Hid (Below w.heap.size w (w.alloc (.cells stn 148))) := (Below.refl _ _).alloc (Nat.le_refl _) _
 have N0 : Hid (Bk (w.alloc (.cells stn 148)) w.heap.size stn 148) := Bk.new _ _ _
 simp only [stn] at *
 go_enter Tryz.func83, Tryz.ntmps83
 go_upto_region 1 with fail
 generalize w.alloc (.cells (zq8 none 0 0 0 false) 148) = v at *
 have d0 := N0.out.cell 0
 have d1 := N0.out.cell 1
 have d2 := N0.out.cell 2
 have d3 := N0.out.cell 3
 have d4 := N0.out.cell 4
 have z0 := N0.out.free 0
 have z1 := N0.out.free 1
 have z2 := N0.out.free 2
 have z3 := N0.out.free 3
 have z4 := N0.out.free 4
 simp only [sqg, sqh, sqt] at d0 d1 d2 d3 d4
 have Y := ((((N0.out.set 0 (.pointer none)).set 1 (.int .i64 0)).set 2 (.int .i64 0)).set 3 (.int .i64 0)).set 4 (.bool false)
 have y0 := Y.cell 0
 have y1 := Y.cell 1
 have y2 := Y.cell 2
 have y3 := Y.cell 3
 have y4 := Y.cell 4
 simp at y0 y1 y2 y3 y4
 clear N0 Y
 go_wp2
 refine bodyPost_ret (v := .agg (zq8 none 0 0 0 false)) ?_ rfl ?_
 ·simp [results, Tryz.results83, go_sem, y0, y1, y2, y3, y4]
 ·exact ⟨rfl, ((((B0.out.setCell (Nat.le_refl _) _).setCell (Nat.le_refl _) _).setCell (Nat.le_refl _) _).setCell (Nat.le_refl _) _).setCell (Nat.le_refl _) _⟩
theorem look_blk {w : World} {b : Nat} {p : Value} {x0 x1 x2 : Int} {x3 : Bool} (h : Bk w b #[p, .int .i64 x0, .int .i64 x1, .int .i64 x2, .bool x3] 162) (hp : ∃ r, p = .pointer (some ⟨r, 0, none⟩)) :
  Calls Tryz.prog 83 #[.pointer (some ⟨b, 0, none⟩)] w fun e w' => e = .returned (.agg #[p, .int .i64 x0, .int .i64 x1, .int .i64 x2, .bool x3]) ∧ Below w.heap.size w w' := by
 obtain ⟨r, rfl⟩ := hp
 have B0 : Hid (Below w.heap.size w (w.alloc (.cells stn 148))) := (Below.refl _ _).alloc (Nat.le_refl _) _
 have N0 : Hid (Bk (w.alloc (.cells stn 148)) w.heap.size stn 148) := Bk.new _ _ _
 have h1 := h.alloc (.cells stn 148)
 have hne : b ≠ w.heap.size := by have := h.lt; omega
 clear h
 simp only [stn] at *
 go_enter Tryz.func83, Tryz.ntmps83
 go_upto_region 1 with fail
 generalize w.alloc (.cells (zq8 none 0 0 0 false) 148) = v at *
 obtain ⟨nb, hnb⟩ : ∃ x, w.heap.size = x := ⟨_, rfl⟩
 have HB : Hid (w.heap.size = nb) := hnb
 rw [hnb] at B0 N0 hne ⊢
 clear hnb
 have c0 := h1.cell 0
 have c1 := h1.cell 1
 have c2 := h1.cell 2
 have c3 := h1.cell 3
 have c4 := h1.cell 4
 have d0 := N0.out.cell 0
 have d1 := N0.out.cell 1
 have d2 := N0.out.cell 2
 have d3 := N0.out.cell 3
 have d4 := N0.out.cell 4
 have z0 := N0.out.free 0
 have z1 := N0.out.free 1
 have z2 := N0.out.free 2
 have z3 := N0.out.free 3
 have z4 := N0.out.free 4
 simp only [sqg, sqh, sqt] at c0 c1 c2 c3 c4 d0 d1 d2 d3 d4
 have Y := ((((N0.out.set 0 (.pointer (some ⟨r, 0, none⟩))).set 1 (.int .i64 x0)).set 2 (.int .i64 x1)).set 3 (.int .i64 x2)).set 4 (.bool x3)
 have y0 := Y.cell 0
 have y1 := Y.cell 1
 have y2 := Y.cell 2
 have y3 := Y.cell 3
 have y4 := Y.cell 4
 simp at y0 y1 y2 y3 y4
 clear N0 Y h1
 go_wp2
 refine bodyPost_ret (v := .agg (zq8 (some ⟨r, 0, none⟩) x0 x1 x2 x3)) ?_ rfl ?_
 ·simp [results, Tryz.results83, go_sem, y0, y1, y2, y3, y4]
 ·exact ⟨rfl, by rw [HB.out]; exact ((((B0.out.setCell (Nat.le_refl _) _).setCell (Nat.le_refl _) _).setCell (Nat.le_refl _) _).setCell (Nat.le_refl _) _).setCell (Nat.le_refl _) _⟩
set_option maxRecDepth 100000 in
theorem stField0 (p a b c d : Value) (v : World) : (Instr.field 148 (.agg #[p, a, b, c, d]) 0).run Tryz.prog v = .ok p v := by kernel_rfl
set_option maxRecDepth 100000 in
theorem stField1 (p a b c d : Value) (v : World) : (Instr.field 148 (.agg #[p, a, b, c, d]) 1).run Tryz.prog v = .ok (.agg #[a, b, c]) v := by kernel_rfl
set_option maxRecDepth 100000 in
theorem paField0 (a b c : Value) (v : World) : (Instr.field 146 (.agg #[a, b, c]) 0).run Tryz.prog v = .ok a v := by kernel_rfl
set_option maxRecDepth 100000 in
theorem paField1 (a b c : Value) (v : World) : (Instr.field 146 (.agg #[a, b, c]) 1).run Tryz.prog v = .ok b v := by kernel_rfl
set_option maxRecDepth 100000 in
theorem paField2 (a b c : Value) (v : World) : (Instr.field 146 (.agg #[a, b, c]) 2).run Tryz.prog v = .ok c v := by kernel_rfl
end Go.Proofs.YtmmegmonmilkcaaGreatDoor
namespace Go.Proofs.YtmmegmonmilkcaaGreatDoor
open Go.RowKit
theorem new_ways (n : Int) : (n < 1 ∧ (((min (max n 1) 64).toNat : Nat) : Int) = 1) ∨ (n = 1 ∧ (((min (max n 1) 64).toNat : Nat) : Int) = 1) ∨ (1 < n ∧ n < 64 ∧ (((min (max n 1) 64).toNat : Nat) : Int) = n) ∨ (n = 64 ∧ (((min (max n 1) 64).toNat : Nat) : Int) = 64) ∨ (64 < n ∧ (((min (max n 1) 64).toNat : Nat) : Int) = 64) := by omega
theorem kn_new {w w' : World} {r p : Nat} {n R : Int} (hR : (((min (max n 1) 64).toNat : Nat) : Int) = R) (h : RU.RingAt w' r r 0 (RU.ring0 R 0)) (hb : Below w.heap.size w w') (hr : w.heap.size ≤ r) (hp : w'.heap.size = p) :
  Kn (w'.alloc (.cells (zq8 (some ⟨r, 0, none⟩) 0 0 0 false) 162)) p (newK n) (fk p r r) ∧ (∀ g, fk p r r g → w.heap.size ≤ g) ∧ Below w.heap.size w (w'.alloc (.cells (zq8 (some ⟨r, 0, none⟩) 0 0 0 false) 162)) := by
 subst hp
 have hl := h.lt.1
 have hs := hb.size
 refine ⟨⟨KOk.new n, r, r, 0, _, ⟨fun _ => rfl, Bk.new _ _ _, h.below ((Below.refl _ _).alloc (Nat.le_refl _) _) (Nat.le_refl _), ⟨by omega, by omega⟩, ?_, rfl, rfl⟩, rfl⟩, ?_, hb.alloc hs _⟩
 ·show R = _
  rw [← hR]
  rfl
 ·rintro g (rfl | rfl | rfl) <;> omega
theorem lane_new (n : Int) (w : World) : Calls Tryz.prog 82 #[.int .i64 n] w fun e w' => ∃ p F, e = .returned (.pointer (some ⟨p, 0, none⟩)) ∧ Kn w' p (newK n) F ∧ (∀ g, F g → w.heap.size ≤ g) ∧ Below w.heap.size w w' := by
 have HW := new_ways n
 obtain ⟨R, hR⟩ : ∃ R : Int, (((min (max n 1) 64).toNat : Nat) : Int) = R := ⟨_, rfl⟩
 have HR : Hid ((((min (max n 1) 64).toNat : Nat) : Int) = R) := hR
 rw [hR] at HW
 clear hR
 rcases HW with ⟨a, rfl⟩ | ⟨rfl, rfl⟩ | ⟨a, a2, rfl⟩ | ⟨rfl, rfl⟩ | ⟨a, rfl⟩
 ·have C : Calls Tryz.prog 108 #[.int .i64 1, .int .u32 0] w fun e w' => e = .returned (.pointer (some ⟨w.heap.size, 0, none⟩)) ∧ RU.RingAt w' w.heap.size w.heap.size 0 (RU.ring0 1 0) ∧ Below w.heap.size w w' ∧ w.heap.size < w'.heap.size := RU.ring_new 1 0 (by decide) w
  go_enter Tryz.func82, Tryz.ntmps82
  go_wp2_with (go_at_call 108; with_reducible refine C.mono ?_; rintro e w1 ⟨rfl, hI, hb, hs⟩)
  go_ret
  exact ⟨w1.heap.size, fk w1.heap.size w.heap.size w.heap.size, rfl, kn_new HR.out hI hb (Nat.le_refl _) rfl⟩
 ·have C : Calls Tryz.prog 108 #[.int .i64 1, .int .u32 0] w fun e w' => e = .returned (.pointer (some ⟨w.heap.size, 0, none⟩)) ∧ RU.RingAt w' w.heap.size w.heap.size 0 (RU.ring0 1 0) ∧ Below w.heap.size w w' ∧ w.heap.size < w'.heap.size := RU.ring_new 1 0 (by decide) w
  go_enter Tryz.func82, Tryz.ntmps82
  go_wp2_with (go_at_call 108; with_reducible refine C.mono ?_; rintro e w1 ⟨rfl, hI, hb, hs⟩)
  go_ret
  exact ⟨w1.heap.size, fk w1.heap.size w.heap.size w.heap.size, rfl, kn_new HR.out hI hb (Nat.le_refl _) rfl⟩
 ·have C : Calls Tryz.prog 108 #[.int .i64 R, .int .u32 0] w fun e w' => e = .returned (.pointer (some ⟨w.heap.size, 0, none⟩)) ∧ RU.RingAt w' w.heap.size w.heap.size 0 (RU.ring0 R 0) ∧ Below w.heap.size w w' ∧ w.heap.size < w'.heap.size := RU.ring_new R 0 (by decide) w
  go_enter Tryz.func82, Tryz.ntmps82
  go_wp2_with (go_at_call 108; with_reducible refine C.mono ?_; rintro e w1 ⟨rfl, hI, hb, hs⟩)
  go_ret
  exact ⟨w1.heap.size, fk w1.heap.size w.heap.size w.heap.size, rfl, kn_new HR.out hI hb (Nat.le_refl _) rfl⟩
 ·have C : Calls Tryz.prog 108 #[.int .i64 64, .int .u32 0] w fun e w' => e = .returned (.pointer (some ⟨w.heap.size, 0, none⟩)) ∧ RU.RingAt w' w.heap.size w.heap.size 0 (RU.ring0 64 0) ∧ Below w.heap.size w w' ∧ w.heap.size < w'.heap.size := RU.ring_new 64 0 (by decide) w
  go_enter Tryz.func82, Tryz.ntmps82
  go_wp2_with (go_at_call 108; with_reducible refine C.mono ?_; rintro e w1 ⟨rfl, hI, hb, hs⟩)
  go_ret
  exact ⟨w1.heap.size, fk w1.heap.size w.heap.size w.heap.size, rfl, kn_new HR.out hI hb (Nat.le_refl _) rfl⟩
 ·have C : Calls Tryz.prog 108 #[.int .i64 64, .int .u32 0] w fun e w' => e = .returned (.pointer (some ⟨w.heap.size, 0, none⟩)) ∧ RU.RingAt w' w.heap.size w.heap.size 0 (RU.ring0 64 0) ∧ Below w.heap.size w w' ∧ w.heap.size < w'.heap.size := RU.ring_new 64 0 (by decide) w
  go_enter Tryz.func82, Tryz.ntmps82
  go_wp2_with (go_at_call 108; with_reducible refine C.mono ?_; rintro e w1 ⟨rfl, hI, hb, hs⟩)
  go_ret
  exact ⟨w1.heap.size, fk w1.heap.size w.heap.size w.heap.size, rfl, kn_new HR.out hI hb (Nat.le_refl _) rfl⟩
section
variable {w : World} {b : Nat} {S : KS} {F : Nat → Prop}
theorem look_any {r pr mr : Nat} {sr : RU.RingSt} (h : KnAt w b S r pr mr sr) : Calls Tryz.prog 83 #[.pointer (some ⟨b, 0, none⟩)] w fun e w' => e = .returned (.agg (stc S r)) ∧ Below w.heap.size w w' := look_blk h.blk ⟨r, rfl⟩
set_option maxHeartbeats 1000000 in
theorem lane_put (h : Kn w b S F) (x : Nat) (hx : x < 18446744073709551616) : Calls Tryz.prog 47 #[.pointer (some ⟨b, 0, none⟩), .int .u64 (x : Int)] w fun e w' => ∃ F', e = .returned (.int .i64 (putK S x).2) ∧ Kn w' b (putK S x).1 F' ∧ Gr F w w' F' := by
 obtain ⟨ok, r, pr, mr, sr, hk, rfl⟩ := h
 have LC := look_any hk
 have ok' : Hid (KOk (putK S x).1) := ok.put hx
 obtain ⟨k1, k2, k3, k4⟩ := push_kn ok hk.room hk.laid hk.xs x
 obtain ⟨p1, p2, p3, p4, p5⟩ := putK_same S x
 have PC : ∀ v : World, RU.RingAt v r pr mr sr → Calls Tryz.prog 84 #[.pointer (some ⟨r, 0, none⟩), .int .u64 (x : Int)] v fun e w' => e = .returned (.int .i64 (putK S x).2) ∧ RU.Stp r pr v w' (RU.pushS sr (x : Int)) := fun v hv => by
  have := RU.ring_push hv (x : Int)
  rwa [k1] at this
 have ST : Hid (∀ v w' : World, KnAt v b S r pr mr sr → RU.Stp r pr v w' (RU.pushS sr (x : Int)) → ∃ pr' mr', KnAt w' b (putK S x).1 r pr' mr' (RU.pushS sr (x : Int)) ∧ Gr (fk b r pr) v w' (fk b r pr')) := show _ from fun v w' hv hs =>
  hv.step hs (by simp only [stc, p2, p3, p4, p5]) p1 (by rw [p2, p4]; exact hv.lz) k2 k3 k4
 have HK : Hid _ := hk
 have PX : Hid _ := PC
 clear k1 k2 k3 k4 p1 p2 p3 p4 p5 hk PC ok hx
 have FX := fun p a b c d v => stField0 p a b c d v
 simp only [stc] at LC
 generalize (putK S x).2 = ex at *
 generalize (putK S x).1 = S' at *
 generalize RU.pushS sr (x : Int) = sr' at *
 generalize (x : Int) = X at *
 go_enter Tryz.func47, Tryz.ntmps47
 go_wp2_with fail
 go_at_call 83
 with_reducible refine LC.mono ?_
 rintro e w1 ⟨rfl, hb1⟩
 have H1 : Hid _ := HK.out.next hb1
 have B1 : Hid (Below w.heap.size w w1) := hb1
 have PW := PX.out w1 H1.out.rg
 clear HK hb1 LC
 go_wp2_with fail
 go_at_call 84
 with_reducible refine PW.mono ?_
 rintro e w2 ⟨rfl, hs⟩
 obtain ⟨pr', mr', k1, g1⟩ := ST.out w1 w2 H1.out hs
 have KK : Hid (Kn w2 b S' (fk b r pr') ∧ Gr (fk b r pr) w w2 (fk b r pr')) := ⟨⟨ok'.out, r, pr', mr', sr', k1, rfl⟩, g1.after B1.out⟩
 clear hs k1 g1 PW
 go_wp2
 go_ret
 exact ⟨_, rfl, KK.out.1, KK.out.2⟩
theorem lane_len (h : Kn w b S F) : Calls Tryz.prog 76 #[.pointer (some ⟨b, 0, none⟩)] w fun e w' => e = .returned (.int .i64 (S.ws.length : Int)) ∧ Below w.heap.size w w' := by
 obtain ⟨ok, r, pr, mr, sr, hk, rfl⟩ := h
 have LC := look_any hk
 have RC : Hid (∀ v : World, RU.RingAt v r pr mr sr → Calls Tryz.prog 104 #[.pointer (some ⟨r, 0, none⟩)] v fun e w' => e = .returned (.int .i64 (S.ws.length : Int)) ∧ ∃ n, w' = v.drewN n) := show _ from fun v hv => by
  have := RU.ring_len hv
  rwa [hk.xs, show (wz S.ws).length = S.ws.length by simp [wz]] at this
 have HK : Hid _ := hk
 clear hk ok
 have FX := fun p a b c d v => stField0 p a b c d v
 simp only [stc] at LC
 generalize (S.ws.length : Int) = X at *
 go_enter Tryz.func76, Tryz.ntmps76
 go_wp2_with fail
 go_at_call 83
 with_reducible refine LC.mono ?_
 rintro e w1 ⟨rfl, hb1⟩
 have PW := RC.out w1 (HK.out.next hb1).rg
 have B1 : Hid (Below w.heap.size w w1) := hb1
 clear HK hb1 LC
 go_wp2_with fail
 go_at_call 104
 with_reducible refine PW.mono ?_
 rintro e w2 ⟨rfl, m, rfl⟩
 go_wp2
 go_ret
 exact ⟨rfl, dn B1.out m⟩
theorem lane_room (h : Kn w b S F) : Calls Tryz.prog 77 #[.pointer (some ⟨b, 0, none⟩)] w fun e w' => e = .returned (.int .i64 ((S.r : Int) - (S.ws.length : Int))) ∧ Below w.heap.size w w' := by
 obtain ⟨ok, r, pr, mr, sr, hk, rfl⟩ := h
 have LC := look_any hk
 have RC : Hid (∀ v : World, RU.RingAt v r pr mr sr → Calls Tryz.prog 105 #[.pointer (some ⟨r, 0, none⟩)] v fun e w' => e = .returned (.int .i64 ((S.r : Int) - (S.ws.length : Int))) ∧ ∃ n, w' = v.drewN n) := show _ from fun v hv => by
  have := RU.ring_room hv
  have hfree : sr.free = (S.r : Int) - (S.ws.length : Int) := by
   have r1 := ok.r1
   have r64 := ok.r64
   rw [RU.RingSt.free, hk.room, hk.laid, hk.xs, show (wz S.ws).length = S.ws.length by simp [wz]]
   simp [RU.one]
   omega
  rwa [hfree] at this
 have HK : Hid _ := hk
 clear hk ok
 have FX := fun p a b c d v => stField0 p a b c d v
 simp only [stc] at LC
 generalize (S.r : Int) - (S.ws.length : Int) = X at *
 go_enter Tryz.func77, Tryz.ntmps77
 go_wp2_with fail
 go_at_call 83
 with_reducible refine LC.mono ?_
 rintro e w1 ⟨rfl, hb1⟩
 have PW := RC.out w1 (HK.out.next hb1).rg
 have B1 : Hid (Below w.heap.size w w1) := hb1
 clear HK hb1 LC
 go_wp2_with fail
 go_at_call 105
 with_reducible refine PW.mono ?_
 rintro e w2 ⟨rfl, m, rfl⟩
 go_wp2
 go_ret
 exact ⟨rfl, dn B1.out m⟩
theorem lane_phase (h : Kn w b S F) : Calls Tryz.prog 59 #[.pointer (some ⟨b, 0, none⟩)] w fun e w' => e = .returned (.int .i64 S.ph) ∧ Below w.heap.size w w' := by
 obtain ⟨ok, r, pr, mr, sr, hk, rfl⟩ := h
 have LC := look_any hk
 have FX := fun p a b c d v => stField1 p a b c d v
 have FY := fun a b c v => paField0 a b c v
 simp only [stc] at LC
 clear hk ok
 go_enter Tryz.func59, Tryz.ntmps59
 go_wp2_with (go_at_call 83; with_reducible refine LC.mono ?_; rintro e w1 ⟨rfl, hb1⟩)
 go_ret
 exact ⟨rfl, hb1⟩
theorem lane_port (h : Kn w b S F) : Calls Tryz.prog 60 #[.pointer (some ⟨b, 0, none⟩)] w fun e w' => e = .returned (.int .i64 S.port) ∧ Below w.heap.size w w' := by
 obtain ⟨ok, r, pr, mr, sr, hk, rfl⟩ := h
 have LC := look_any hk
 have FX := fun p a b c d v => stField1 p a b c d v
 have FY := fun a b c v => paField1 a b c v
 simp only [stc] at LC
 clear hk ok
 go_enter Tryz.func60, Tryz.ntmps60
 go_wp2_with (go_at_call 83; with_reducible refine LC.mono ?_; rintro e w1 ⟨rfl, hb1⟩)
 go_ret
 exact ⟨rfl, hb1⟩
theorem lane_given (h : Kn w b S F) : Calls Tryz.prog 70 #[.pointer (some ⟨b, 0, none⟩)] w fun e w' => e = .returned (.int .i64 S.lane) ∧ Below w.heap.size w w' := by
 obtain ⟨ok, r, pr, mr, sr, hk, rfl⟩ := h
 have LC := look_any hk
 have FX := fun p a b c d v => stField1 p a b c d v
 have FY := fun a b c v => paField2 a b c v
 simp only [stc] at LC
 clear hk ok
 go_enter Tryz.func70, Tryz.ntmps70
 go_wp2_with (go_at_call 83; with_reducible refine LC.mono ?_; rintro e w1 ⟨rfl, hb1⟩)
 go_ret
 exact ⟨rfl, hb1⟩
theorem KOk.lane {S : KS} (h : KOk S) (k : Int) : KOk { S with ph := 2, lane := k } := ⟨h.r1, h.r64, h.wl, h.wi, Or.inr (Or.inr rfl)⟩
set_option maxHeartbeats 1000000 in
theorem lane_give (h : Kn w b S F) (k : Int) : Calls Tryz.prog 64 #[.pointer (some ⟨b, 0, none⟩), .int .i64 k] w fun e w' => ∃ F', e = .returned (.bool (giveK S k).2) ∧ Kn w' b (giveK S k).1 F' ∧ Gr F w w' F' := by
 have PH := lane_phase h
 have HK : Hid (Kn w b S F) := h
 unfold giveK
 by_cases hp : S.ph = 1
 ·rw [if_pos hp]
  rw [hp] at PH
  clear h hp
  go_enter Tryz.func64, Tryz.ntmps64
  go_wp2_with fail
  go_at_call 59
  with_reducible refine PH.mono ?_
  rintro e w1 ⟨rfl, hb1⟩
  obtain ⟨ok, r, pr, mr, sr, hk, rfl⟩ := HK.out.next hb1
  have HB : Hid (Below w.heap.size w w1) := hb1
  have H1 : Hid (KOk S ∧ KnAt w1 b S r pr mr sr) := ⟨ok, hk⟩
  have c1 := hk.blk.cell 1
  have c3 := hk.blk.cell 3
  have z1 := hk.blk.free 1
  have z3 := hk.blk.free 3
  simp only [stc, sqg, sqh, sqt] at c1 c3
  clear hb1 HK PH ok hk
  go_wp2
  go_ret
  have X : Bk ((w1.setCell ⟨b, 1, none⟩ (.int .i64 2)).setCell ⟨b, 3, none⟩ (.int .i64 k)) b (stc { S with ph := 2, lane := k } r) 162 := by
   have := (H1.out.2.blk.set 1 (.int .i64 2)).set 3 (.int .i64 k)
   simpa [stc] using this
  have O : On b w1 ((w1.setCell ⟨b, 1, none⟩ (.int .i64 2)).setCell ⟨b, 3, none⟩ (.int .i64 k)) := ((On.refl b w1).set 1 _).set 3 _
  exact ⟨_, rfl, ⟨H1.out.1.lane k, r, pr, mr, sr, H1.out.2.turn O X rfl rfl (fun h => absurd rfl h), rfl⟩, (O.gr (F := fk b r pr) (Or.inl rfl)).after HB.out⟩
 ·rw [if_neg hp]
  have t1 : (S.ph != 1) = true := by simpa using hp
  clear h
  generalize S.ph = ph at *
  go_enter Tryz.func64, Tryz.ntmps64
  go_wp2_with fail
  go_at_call 59
  with_reducible refine PH.mono ?_
  rintro e w1 ⟨rfl, hb1⟩
  clear PH
  go_wp2
  go_ret
  exact ⟨F, rfl, HK.out.next hb1, Gr.of hb1⟩
end
end Go.Proofs.YtmmegmonmilkcaaGreatDoor
namespace Go.Proofs.YtmmegmonmilkcaaGreatDoor
open Go.RowKit
def waitB (S : KS) : Bool := match S.ws with | [] => false | x :: _ => decide (S.ph = 0) && hdK x
def waitF (S : KS) : Fl := match S.ws with | [] => zf | x :: _ => if S.ph = 0 then (readR x).1 else zf
theorem find_cases (S : KS) (node P : Int) : (waitB S = false ∧ findK S node P = (S, false)) ∨ (waitB S = true ∧ S.ph = 0 ∧ (((waitF S).d = node ∧ findK S node P = ({ S with ph := 2, port := 0, lane := 0 }, true)) ∨ (¬ (waitF S).d = node ∧ (((1 ≤ P ∧ P ≤ 4) ∧ findK S node P = ({ S with ph := 1, port := P }, true)) ∨ (¬ (1 ≤ P ∧ P ≤ 4) ∧ findK S node P = (S, false)))))) := by
 unfold waitB waitF findK
 cases S.ws with
 | nil => exact Or.inl ⟨rfl, rfl⟩
 | cons x t =>
  simp only
  by_cases h : S.ph = 0 ∧ hdK x = true
  ·rw [if_pos h, if_pos h.1]
   refine Or.inr ⟨by rw [h.2, h.1]; rfl, h.1, ?_⟩
   by_cases hd : (readR x).1.d = node
   ·rw [if_pos hd]
    exact Or.inl ⟨hd, rfl⟩
   ·rw [if_neg hd]
    refine Or.inr ⟨hd, ?_⟩
    by_cases hp : 1 ≤ P ∧ P ≤ 4
    ·rw [if_pos hp]
     exact Or.inl ⟨hp, rfl⟩
    ·rw [if_neg hp]
     exact Or.inr ⟨hp, rfl⟩
  ·rw [if_neg h]
   refine Or.inl ⟨?_, rfl⟩
   by_cases h1 : S.ph = 0
   ·have : ¬ hdK x = true := fun c => h ⟨h1, c⟩
    simp [this]
   ·simp [h1]
theorem wait_of {S : KS} {x : Nat} {t : List Nat} (hw : S.ws = x :: t) (hp : S.ph = 0) : waitF S = (readR x).1 ∧ waitB S = (decide ((readR x).2 = 0) && decide ((readR x).1.k = 1)) := by
 have e1 : waitF S = if S.ph = 0 then (readR x).1 else zf := by unfold waitF; rw [hw]
 have e2 : waitB S = (decide (S.ph = 0) && hdK x) := by unfold waitB; rw [hw]
 rw [e1, e2, if_pos hp, hp, decide_eq_true (rfl : (0 : Int) = 0), Bool.true_and]
 exact ⟨rfl, by unfold hdK; rfl⟩
theorem wait_no {S : KS} (h : S.ws = [] ∨ ¬ S.ph = 0) : waitF S = zf ∧ waitB S = false := by
 unfold waitF waitB
 cases e : S.ws with
 | nil => exact ⟨rfl, rfl⟩
 | cons x t =>
  rw [e] at h
  have h1 : ¬ S.ph = 0 := h.elim (fun c => by cases c) id
  simp only
  rw [if_neg h1]
  exact ⟨rfl, by simp [h1]⟩
theorem Bk.eight {v : World} {k : Nat} {c0 c1 c2 c3 c4 c5 c6 c7 x0 x1 x2 x3 x4 x5 x6 x7 : Value} {t : TypeId} (h : Bk v k #[c0, c1, c2, c3, c4, c5, c6, c7] t) :
  Bk ((((((((v.setCell ⟨k, 0, none⟩ x0).setCell ⟨k, 1, none⟩ x1).setCell ⟨k, 2, none⟩ x2).setCell ⟨k, 3, none⟩ x3).setCell ⟨k, 4, none⟩ x4).setCell ⟨k, 5, none⟩ x5).setCell ⟨k, 6, none⟩ x6).setCell ⟨k, 7, none⟩ x7) k #[x0, x1, x2, x3, x4, x5, x6, x7] t := by
 have := (((((((h.set 0 x0).set 1 x1).set 2 x2).set 3 x3).set 4 x4).set 5 x5).set 6 x6).set 7 x7
 simpa using this
theorem below_eight_at {B : Nat} {w v : World} {k : Nat} {x0 x1 x2 x3 x4 x5 x6 x7 : Value} (h : Below B w v) (hk : B ≤ k) :
  Below B w ((((((((v.setCell ⟨k, 0, none⟩ x0).setCell ⟨k, 1, none⟩ x1).setCell ⟨k, 2, none⟩ x2).setCell ⟨k, 3, none⟩ x3).setCell ⟨k, 4, none⟩ x4).setCell ⟨k, 5, none⟩ x5).setCell ⟨k, 6, none⟩ x6).setCell ⟨k, 7, none⟩ x7) :=
 (((((((h.setCell hk _).setCell hk _).setCell hk _).setCell hk _).setCell hk _).setCell hk _).setCell hk _).setCell hk _
theorem Bk.flit {v : World} {k : Nat} {c0 c1 c2 c3 c4 c5 c6 c7 : Value} {t : TypeId} (h : Bk v k #[c0, c1, c2, c3, c4, c5, c6, c7] t) :
  v.cell? ⟨k, 0, none⟩ = some c0 ∧ v.cell? ⟨k, 1, none⟩ = some c1 ∧ v.cell? ⟨k, 2, none⟩ = some c2 ∧ v.cell? ⟨k, 3, none⟩ = some c3 ∧ v.cell? ⟨k, 4, none⟩ = some c4 ∧ v.cell? ⟨k, 5, none⟩ = some c5 ∧ v.cell? ⟨k, 6, none⟩ = some c6 ∧ v.cell? ⟨k, 7, none⟩ = some c7 := by
 refine ⟨?_, ?_, ?_, ?_, ?_, ?_, ?_, ?_⟩ <;> (rw [h.cell]; rfl)
theorem Bk.frees {v : World} {k : Nat} {cs : Array Value} {t : TypeId} (h : Bk v k cs t) :
  v.frozen? ⟨k, 0, none⟩ = false ∧ v.frozen? ⟨k, 1, none⟩ = false ∧ v.frozen? ⟨k, 2, none⟩ = false ∧ v.frozen? ⟨k, 3, none⟩ = false ∧ v.frozen? ⟨k, 4, none⟩ = false ∧ v.frozen? ⟨k, 5, none⟩ = false ∧ v.frozen? ⟨k, 6, none⟩ = false ∧ v.frozen? ⟨k, 7, none⟩ = false :=
 ⟨h.free 0, h.free 1, h.free 2, h.free 3, h.free 4, h.free 5, h.free 6, h.free 7⟩
theorem goes_any {w : World} {b : Nat} {p : Value} {x0 x1 x2 : Int} {x3 : Bool} (h : Bk w b #[p, .int .i64 x0, .int .i64 x1, .int .i64 x2, .bool x3] 162) (ph port : Int) :
  Calls Tryz.prog 92 #[.pointer (some ⟨b, 0, none⟩), .int .i64 ph, .int .i64 port] w fun e w' => e = .returned (.tuple #[]) ∧ Bk w' b #[p, .int .i64 ph, .int .i64 port, .int .i64 0, .bool x3] 162 ∧ On b w w' := by
 have c1 := h.cell 1
 have c2 := h.cell 2
 have c3 := h.cell 3
 have z1 := h.free 1
 have z2 := h.free 2
 have z3 := h.free 3
 simp only [sqg, sqh, sqt] at c1 c2 c3
 have X : Hid (Bk (((w.setCell ⟨b, 1, none⟩ (.int .i64 ph)).setCell ⟨b, 2, none⟩ (.int .i64 port)).setCell ⟨b, 3, none⟩ (.int .i64 0)) b #[p, .int .i64 ph, .int .i64 port, .int .i64 0, .bool x3] 162) := show Bk _ _ _ _ from by
  have := ((h.set 1 (.int .i64 ph)).set 2 (.int .i64 port)).set 3 (.int .i64 0)
  simpa using this
 have O : Hid (On b w (((w.setCell ⟨b, 1, none⟩ (.int .i64 ph)).setCell ⟨b, 2, none⟩ (.int .i64 port)).setCell ⟨b, 3, none⟩ (.int .i64 0))) := (((On.refl b w).set 1 _).set 2 _).set 3 _
 clear h
 go_enter Tryz.func92, Tryz.ntmps92
 go_wp2
 refine bodyPost_end (results_none rfl _ _ _) rfl ⟨rfl, X.out, O.out⟩
section
variable {w : World} {b : Nat} {S : KS} {F : Nat → Prop}
theorem wait_world (w : World) (cs : Array Value) : Below w.heap.size w ((w.alloc (.cells cs 148)).alloc (.cells #[.int .i64 0, .int .i64 0, .int .i64 0, .int .i64 0, .int .i64 0, .bool false, .bool false, .string ⟨#[]⟩] 112)) ∧ Bk ((w.alloc (.cells cs 148)).alloc (.cells #[.int .i64 0, .int .i64 0, .int .i64 0, .int .i64 0, .int .i64 0, .bool false, .bool false, .string ⟨#[]⟩] 112)) w.heap.size cs 148 ∧ Bk ((w.alloc (.cells cs 148)).alloc (.cells #[.int .i64 0, .int .i64 0, .int .i64 0, .int .i64 0, .int .i64 0, .bool false, .bool false, .string ⟨#[]⟩] 112)) (w.heap.size + 1) #[.int .i64 0, .int .i64 0, .int .i64 0, .int .i64 0, .int .i64 0, .bool false, .bool false, .string ⟨#[]⟩] 112 := by
 refine ⟨((Below.refl _ _).alloc (Nat.le_refl _) _).alloc (by simp) _, (Bk.new w _ _).alloc _, ?_⟩
 have := Bk.new (w.alloc (.cells cs 148)) #[.int .i64 0, .int .i64 0, .int .i64 0, .int .i64 0, .int .i64 0, .bool false, .bool false, .string ⟨#[]⟩] 112
 simpa using this
set_option maxRecDepth 100000 in
set_option maxHeartbeats 4000000 in
theorem waiting_any {r pr mr : Nat} {sr : RU.RingSt} (ok : KOk S) (h : KnAt w b S r pr mr sr) : Calls Tryz.prog 91 #[.agg (stc S r)] w fun e w' => e = .returned (.tuple #[flv (waitF S), .bool (waitB S)]) ∧ Below w.heap.size w w' := by
 obtain ⟨W1, W2, W3⟩ := wait_world w (stc S r)
 have H1 := h.next W1
 have PK := RU.ring_peek H1.rg
 have NB : Hid (Below w.heap.size w ((w.alloc (.cells (stc S r) 148)).alloc (.cells #[.int .i64 0, .int .i64 0, .int .i64 0, .int .i64 0, .int .i64 0, .bool false, .bool false, .string ⟨#[]⟩] 112))) := W1
 have N2 : Hid (Bk ((w.alloc (.cells (stc S r) 148)).alloc (.cells #[.int .i64 0, .int .i64 0, .int .i64 0, .int .i64 0, .int .i64 0, .bool false, .bool false, .string ⟨#[]⟩] 112)) w.heap.size (stc S r) 148) := W2
 have N3 : Hid (Bk ((w.alloc (.cells (stc S r) 148)).alloc (.cells #[.int .i64 0, .int .i64 0, .int .i64 0, .int .i64 0, .int .i64 0, .bool false, .bool false, .string ⟨#[]⟩] 112)) (w.heap.size + 1) #[.int .i64 0, .int .i64 0, .int .i64 0, .int .i64 0, .int .i64 0, .bool false, .bool false, .string ⟨#[]⟩] 112) := W3
 have hxs := h.xs
 have hwi := ok.wi
 clear W1 W2 W3 H1 h ok
 simp only [stc] at *
 by_cases hno : S.ws = [] ∨ ¬ S.ph = 0
 ·obtain ⟨e1, e2⟩ := wait_no hno
  rw [e1, e2]
  obtain ⟨PV, hPV⟩ : ∃ x, RU.peekV sr = x := ⟨_, rfl⟩
  obtain ⟨PE, hPE⟩ : ∃ x, RU.peekE sr = x := ⟨_, rfl⟩
  rw [hPV, hPE] at PK
  have HT : Hid (((S.ph != 0) = true) ∨ ((S.ph != 0) = false ∧ (PE != 0) = true)) := show _ ∨ _ from by
   by_cases hp : S.ph = 0
   ·have hw : S.ws = [] := hno.elim id fun c => absurd hp c
    refine Or.inr ⟨by rw [hp]; rfl, ?_⟩
    rw [← hPE]
    unfold RU.peekE
    rw [hxs, hw, show wz [] = [] from rfl, if_pos rfl]
    rfl
   ·exact Or.inl (by simpa using hp)
  clear hno e1 e2 hPV hPE hxs hwi
  generalize S.ph = sp at *
  generalize S.port = so at *
  generalize S.lane = sl at *
  generalize S.cp = sc at *
  rcases HT.out with t1 | ⟨t1, t2⟩
  ·clear HT
   go_enter Tryz.func91, Tryz.ntmps91
   go_upto_region 1 with fail
   generalize (w.alloc (.cells (zq8 (some ⟨r, 0, none⟩) sp so sl sc) 148)).alloc (.cells #[.int .i64 0, .int .i64 0, .int .i64 0, .int .i64 0, .int .i64 0, .bool false, .bool false, .string ⟨#[]⟩] 112) = v at *
   obtain ⟨nb, hnb⟩ : ∃ x, w.heap.size = x := ⟨_, rfl⟩
   obtain ⟨rb, hrb⟩ : ∃ x, w.heap.size + 1 = x := ⟨_, rfl⟩
   have HB : Hid (w.heap.size = nb ∧ nb + 1 = rb) := ⟨hnb, by rw [← hrb, hnb]⟩
   rw [hrb] at N3 ⊢
   rw [hnb] at NB N2 ⊢
   clear hnb hrb
   have c0 := N2.out.cell 0
   simp only [List.getElem?_toArray, List.getElem?_cons_zero] at c0
   go_upto_region 2 with (go_at_call 117; with_reducible refine PK.mono ?_; rintro e w1 ⟨rfl, m, rfl⟩)
   have M2 : Bk (v.drewN m) nb (zq8 (some ⟨r, 0, none⟩) sp so sl sc) 148 := N2.out.drewN m
   have M3 : Bk (v.drewN m) rb #[.int .i64 0, .int .i64 0, .int .i64 0, .int .i64 0, .int .i64 0, .bool false, .bool false, .string ⟨#[]⟩] 112 := N3.out.drewN m
   have MB : Hid (Below nb w (v.drewN m)) := dn NB.out m
   clear PK N2 N3 NB c0
   generalize v.drewN m = u at *
   have c1 := M2.cell 1
   simp only [sqg, sqh, sqt] at c1
   obtain ⟨d0, d1, d2, d3, d4, d5, d6, d7⟩ := M3.flit
   obtain ⟨z0, z1, z2, z3, z4, z5, z6, z7⟩ := M3.frees
   obtain ⟨y0, y1, y2, y3, y4, y5, y6, y7⟩ := (M3.eight (x0 := .int .i64 0) (x1 := .int .i64 0) (x2 := .int .i64 0) (x3 := .int .i64 0) (x4 := .int .i64 0) (x5 := .bool false) (x6 := .bool false) (x7 := .string ⟨#[]⟩)).flit
   clear M2 M3
   go_wp2
   refine bodyPost_ret (v := .tuple #[.agg #[.int .i64 0, .int .i64 0, .int .i64 0, .int .i64 0, .int .i64 0, .bool false, .bool false, .string ⟨#[]⟩], .bool false]) ?_ rfl ?_
   ·simp [results, Tryz.results91, go_sem, y0, y1, y2, y3, y4, y5, y6, y7]
   ·exact ⟨rfl, by rw [HB.out.1]; exact below_eight_at MB.out (by have := HB.out.2; omega)⟩
  ·clear HT
   go_enter Tryz.func91, Tryz.ntmps91
   go_upto_region 1 with fail
   generalize (w.alloc (.cells (zq8 (some ⟨r, 0, none⟩) sp so sl sc) 148)).alloc (.cells #[.int .i64 0, .int .i64 0, .int .i64 0, .int .i64 0, .int .i64 0, .bool false, .bool false, .string ⟨#[]⟩] 112) = v at *
   obtain ⟨nb, hnb⟩ : ∃ x, w.heap.size = x := ⟨_, rfl⟩
   obtain ⟨rb, hrb⟩ : ∃ x, w.heap.size + 1 = x := ⟨_, rfl⟩
   have HB : Hid (w.heap.size = nb ∧ nb + 1 = rb) := ⟨hnb, by rw [← hrb, hnb]⟩
   rw [hrb] at N3 ⊢
   rw [hnb] at NB N2 ⊢
   clear hnb hrb
   have c0 := N2.out.cell 0
   simp only [List.getElem?_toArray, List.getElem?_cons_zero] at c0
   go_upto_region 2 with (go_at_call 117; with_reducible refine PK.mono ?_; rintro e w1 ⟨rfl, m, rfl⟩)
   have M2 : Bk (v.drewN m) nb (zq8 (some ⟨r, 0, none⟩) sp so sl sc) 148 := N2.out.drewN m
   have M3 : Bk (v.drewN m) rb #[.int .i64 0, .int .i64 0, .int .i64 0, .int .i64 0, .int .i64 0, .bool false, .bool false, .string ⟨#[]⟩] 112 := N3.out.drewN m
   have MB : Hid (Below nb w (v.drewN m)) := dn NB.out m
   clear PK N2 N3 NB c0
   generalize v.drewN m = u at *
   have c1 := M2.cell 1
   simp only [sqg, sqh, sqt] at c1
   obtain ⟨d0, d1, d2, d3, d4, d5, d6, d7⟩ := M3.flit
   obtain ⟨z0, z1, z2, z3, z4, z5, z6, z7⟩ := M3.frees
   obtain ⟨y0, y1, y2, y3, y4, y5, y6, y7⟩ := (M3.eight (x0 := .int .i64 0) (x1 := .int .i64 0) (x2 := .int .i64 0) (x3 := .int .i64 0) (x4 := .int .i64 0) (x5 := .bool false) (x6 := .bool false) (x7 := .string ⟨#[]⟩)).flit
   clear M2 M3
   go_wp2
   refine bodyPost_ret (v := .tuple #[.agg #[.int .i64 0, .int .i64 0, .int .i64 0, .int .i64 0, .int .i64 0, .bool false, .bool false, .string ⟨#[]⟩], .bool false]) ?_ rfl ?_
   ·simp [results, Tryz.results91, go_sem, y0, y1, y2, y3, y4, y5, y6, y7]
   ·exact ⟨rfl, by rw [HB.out.1]; exact below_eight_at MB.out (by have := HB.out.2; omega)⟩
 ·obtain ⟨x, t, hw⟩ : ∃ x t, S.ws = x :: t := by
   cases e : S.ws with
   | nil => exact absurd (Or.inl e) hno
   | cons x t => exact ⟨x, t, rfl⟩
  have hp : S.ph = 0 := Decidable.of_not_not fun c => hno (Or.inr c)
  obtain ⟨e1, e2⟩ := wait_of hw hp
  have hx : x < 18446744073709551616 := hwi x (by rw [hw]; exact List.mem_cons_self)
  have FR := fun v => fread_any x hx v
  rw [e1, e2]
  obtain ⟨f, hf⟩ : ∃ f, (readR x).1 = f := ⟨_, rfl⟩
  obtain ⟨er, her⟩ : ∃ e, (readR x).2 = e := ⟨_, rfl⟩
  rw [hf, her]
  simp only [hf, her] at FR
  have k1 : RU.peekV sr = (x : Int) := by unfold RU.peekV; rw [hxs, hw]; rfl
  have k2 : RU.peekE sr = 0 := by unfold RU.peekE; rw [hxs, hw, if_neg (by simp [wz])]
  rw [k1, k2] at PK
  rw [hp] at PK N2 N3 NB ⊢
  clear k1 k2 hf her e1 e2 hwi hxs hno hp hw hx
  generalize S.port = so at *
  generalize S.lane = sl at *
  generalize S.cp = sc at *
  generalize (x : Int) = X at *
  obtain ⟨fk, fs, fd, fq, fl, fm, fc, fx⟩ := f
  simp only [flv, flc] at *
  have HT : Hid (((er == 0) = false ∧ (decide (er = 0) && decide (fk = 1)) = false) ∨ ((er == 0) = true ∧ (((fk == 1) = true ∧ (decide (er = 0) && decide (fk = 1)) = true) ∨ ((fk == 1) = false ∧ (decide (er = 0) && decide (fk = 1)) = false)))) := show _ ∨ _ from by
   by_cases a : er = 0
   ·by_cases c : fk = 1
    ·exact Or.inr ⟨by simpa using a, Or.inl ⟨by simpa using c, by simp [a, c]⟩⟩
    ·exact Or.inr ⟨by simpa using a, Or.inr ⟨by simpa using c, by simp [c]⟩⟩
   ·exact Or.inl ⟨by simpa using a, by simp [a]⟩
  obtain ⟨G, hG⟩ : ∃ G, (decide (er = 0) && decide (fk = 1)) = G := ⟨_, rfl⟩
  rw [hG] at HT ⊢
  clear hG
  go_enter Tryz.func91, Tryz.ntmps91
  go_upto_region 1 with fail
  generalize (w.alloc (.cells (zq8 (some ⟨r, 0, none⟩) 0 so sl sc) 148)).alloc (.cells #[.int .i64 0, .int .i64 0, .int .i64 0, .int .i64 0, .int .i64 0, .bool false, .bool false, .string ⟨#[]⟩] 112) = v at *
  obtain ⟨nb, hnb⟩ : ∃ x, w.heap.size = x := ⟨_, rfl⟩
  obtain ⟨rb, hrb⟩ : ∃ x, w.heap.size + 1 = x := ⟨_, rfl⟩
  have HB : Hid (w.heap.size = nb ∧ nb + 1 = rb) := ⟨hnb, by rw [← hrb, hnb]⟩
  rw [hrb] at N3 ⊢
  rw [hnb] at NB N2 ⊢
  clear hnb hrb
  have c0 := N2.out.cell 0
  simp only [List.getElem?_toArray, List.getElem?_cons_zero] at c0
  go_upto_region 2 with (go_at_call 117; with_reducible refine PK.mono ?_; rintro e w1 ⟨rfl, m, rfl⟩)
  have M2 : Bk (v.drewN m) nb (zq8 (some ⟨r, 0, none⟩) 0 so sl sc) 148 := N2.out.drewN m
  have M3 : Hid (Bk (v.drewN m) rb #[.int .i64 0, .int .i64 0, .int .i64 0, .int .i64 0, .int .i64 0, .bool false, .bool false, .string ⟨#[]⟩] 112) := N3.out.drewN m
  have MB : Hid (Below nb w (v.drewN m)) := dn NB.out m
  clear PK N2 N3 NB c0
  generalize v.drewN m = u at *
  have c1 := M2.cell 1
  simp only [sqg, sqh, sqt] at c1
  have FU := FR u
  clear FR M2
  go_upto_region 5 with (go_at_call 118; with_reducible refine FU.mono ?_; rintro e w2 ⟨rfl, hb2⟩)
  have L2 : rb < w2.heap.size := Nat.lt_of_lt_of_le M3.out.lt hb2.size
  have K3 : Hid (Bk (w2.alloc (.cells (zq3 fk fs fd fq fl fm fc fx) 112)) rb #[.int .i64 0, .int .i64 0, .int .i64 0, .int .i64 0, .int .i64 0, .bool false, .bool false, .string ⟨#[]⟩] 112) := (M3.out.next hb2).alloc _
  have K4 : Hid (Bk (w2.alloc (.cells (zq3 fk fs fd fq fl fm fc fx) 112)) w2.heap.size (zq3 fk fs fd fq fl fm fc fx) 112) := Bk.new w2 _ _
  have KB : Hid (Below nb w (w2.alloc (.cells (zq3 fk fs fd fq fl fm fc fx) 112))) := (MB.out.trans (hb2.mono (by have := M3.out.lt; have := HB.out.2; omega))).alloc (by have := HB.out.2; omega) _
  have K2 : rb < w2.heap.size := L2
  clear L2 M3 MB c1 hb2 FU
  generalize w2.alloc (.cells (zq3 fk fs fd fq fl fm fc fx) 112) = wx at *
  generalize w2.heap.size = kf at *
  have hne : ¬ rb = kf := by omega
  have hne2 : ¬ kf = rb := by omega
  obtain ⟨d0, d1, d2, d3, d4, d5, d6, d7⟩ := K4.out.flit
  obtain ⟨r0, r1, r2, r3, r4, r5, r6, r7⟩ := K3.out.flit
  obtain ⟨z0, z1, z2, z3, z4, z5, z6, z7⟩ := K3.out.frees
  obtain ⟨y0, y1, y2, y3, y4, y5, y6, y7⟩ := (K3.out.eight (x0 := .int .i64 fk) (x1 := .int .i64 fs) (x2 := .int .i64 fd) (x3 := .int .i64 fq) (x4 := .int .i64 fl) (x5 := .bool fm) (x6 := .bool fc) (x7 := .string fx)).flit
  have HD : Hid (rb < kf) := K2
  clear K2 K3 K4
  rcases HT.out with ⟨t1, t3⟩ | ⟨t1, ⟨t2, t3⟩ | ⟨t2, t3⟩⟩
  ·clear HT
   subst t3
   go_region
   go_wp2
   refine bodyPost_ret (v := .tuple #[.agg (zq3 fk fs fd fq fl fm fc fx), .bool false]) ?_ rfl ?_
   ·simp [results, Tryz.results91, go_sem, y0, y1, y2, y3, y4, y5, y6, y7]
   ·exact ⟨rfl, by rw [HB.out.1]; exact (below_eight_at KB.out (by have := HB.out.2; omega)).drew⟩
  ·clear HT
   subst t3
   go_region
   go_wp2
   refine bodyPost_ret (v := .tuple #[.agg (zq3 fk fs fd fq fl fm fc fx), .bool true]) ?_ rfl ?_
   ·simp [results, Tryz.results91, go_sem, y0, y1, y2, y3, y4, y5, y6, y7]
   ·exact ⟨rfl, by rw [HB.out.1]; exact (below_eight_at KB.out (by have := HB.out.2; omega)).drew⟩
  ·clear HT
   subst t3
   go_region
   go_wp2
   refine bodyPost_ret (v := .tuple #[.agg (zq3 fk fs fd fq fl fm fc fx), .bool false]) ?_ rfl ?_
   ·simp [results, Tryz.results91, go_sem, y0, y1, y2, y3, y4, y5, y6, y7]
   ·exact ⟨rfl, by rw [HB.out.1]; exact (below_eight_at KB.out (by have := HB.out.2; omega)).drew⟩
end
def WayAt (w : World) (g : Nat) (lb : Array Value) (f : Fl) (P : Int) : Prop := Ent g ∧ ∀ (v : World), Below w.heap.size w v → Calls Tryz.prog g (#[flv f] ++ lb) v fun e v' => e = .returned (.int .i64 P) ∧ Below v.heap.size v v'
theorem WayAt.next {w v : World} {g : Nat} {lb : Array Value} {f : Fl} {P : Int} (h : WayAt w g lb f P) (hb : Below w.heap.size w v) : WayAt v g lb f P := ⟨h.1, fun u hu => h.2 u (hb.trans (hu.mono hb.size))⟩
theorem lask_idle (p : Addr) (w : World) :
  CallsD Tryz.prog 119 #[.pointer (some p)] .returning w fun e u' w' => e = .returned (.tuple #[]) ∧ u' = .returning ∧ w' = w := by
 refine callsD_of_wpS Tryz.func119 rfl fun c₀ cs hu => ?_
 apply wpS_seq
 apply wpS_region
 simp [wpOpsS, go_sem, recoverD, hu, Tryz.ntmps119, Exit.thenS]
 refine wpS_cond (t := false) (by simp [Act.eval, Array.replicate]) ?_
 simp only [Bool.false_eq_true, if_false]
 refine wpS_of_wp (wp_skip ?_)
 cases c₀
 simp_all [bodyPostS, results, Tryz.results119]
set_option maxRecDepth 100000 in
set_option maxHeartbeats 2000000 in
theorem lask_any {w : World} {g : Nat} {lb : Array Value} {P : Int} {f : Fl} (hg : WayAt w g lb f P) : Calls Tryz.prog 93 #[.func (.func g) #[] lb, flv f] w fun e w' => e = .returned (.int .i64 P) ∧ Below w.heap.size w w' := by
 obtain ⟨fk, fs, fd, fq, fl, fm, fc, fx⟩ := f
 have hmf : ∀ (fn : Fn) (first cap : Array Value) (w : World), (Instr.makeFunc fn first cap).run Tryz.prog w = .ok (.func fn first cap) w := fun _ _ _ _ => rfl
 have eg' : ∀ (args : Array Value) (w : World), (callFunc g args).run Tryz.prog w = .ok (.enter g args) w := hg.1
 have B0 : Below w.heap.size w ((w.alloc (.cells (zq3 fk fs fd fq fl fm fc fx) 112)).alloc (.cells #[.int .i64 0] 3)) := ((Below.refl _ _).alloc (Nat.le_refl _) _).alloc (by simp) _
 have HC := hg.2 _ B0
 have N0 : Hid (Bk ((w.alloc (.cells (zq3 fk fs fd fq fl fm fc fx) 112)).alloc (.cells #[.int .i64 0] 3)) w.heap.size (zq3 fk fs fd fq fl fm fc fx) 112) := (Bk.new w _ _).alloc _
 have N1 : Hid (Bk ((w.alloc (.cells (zq3 fk fs fd fq fl fm fc fx) 112)).alloc (.cells #[.int .i64 0] 3)) (w.heap.size + 1) #[.int .i64 0] 3) := show Bk _ _ _ _ from by
  have := Bk.new (w.alloc (.cells (zq3 fk fs fd fq fl fm fc fx) 112)) #[.int .i64 0] 3
  simpa using this
 have HB0 : Hid (Below w.heap.size w ((w.alloc (.cells (zq3 fk fs fd fq fl fm fc fx) 112)).alloc (.cells #[.int .i64 0] 3))) := B0
 simp only [flv, flc] at *
 clear B0 hg
 go_enter_defers Tryz.func93, Tryz.ntmps93
 go_upto_region 1 with fail
 generalize (w.alloc (.cells (zq3 fk fs fd fq fl fm fc fx) 112)).alloc (.cells #[.int .i64 0] 3) = v at *
 obtain ⟨nb, hnb⟩ : ∃ x, w.heap.size = x := ⟨_, rfl⟩
 obtain ⟨rb, hrb⟩ : ∃ x, w.heap.size + 1 = x := ⟨_, rfl⟩
 have HB : Hid (w.heap.size = nb ∧ nb + 1 = rb) := ⟨hnb, by rw [← hrb, hnb]⟩
 rw [hrb] at N1 ⊢
 rw [hnb] at HB0 N0 ⊢
 clear hnb hrb
 obtain ⟨d0, d1, d2, d3, d4, d5, d6, d7⟩ := N0.out.flit
 go_wp2_with fail
 go_at_fn g
 refine HC.mono ?_
 rintro e w2 ⟨rfl, hb2⟩
 have M1 := N1.out.next hb2
 have c0 := M1.cell 0
 have z0 := M1.free 0
 simp only [List.getElem?_toArray, List.getElem?_cons_zero] at c0
 have BB : Hid (Below nb w (w2.setCell ⟨rb, 0, none⟩ (.int .i64 P))) := (HB0.out.trans (hb2.mono (by have := N0.out.lt; omega))).setCell (by have := HB.out.2; show nb ≤ rb; omega) _
 have Y := (M1.set 0 (.int .i64 P)).cell 0
 simp at Y
 clear N0 N1 M1 HC hb2 d0 d1 d2 d3 d4 d5 d6 d7
 go_wp2
 refine leaves_cons (f := 119) (args := #[.pointer (some ⟨rb, 0, none⟩)]) (by simp) (by simp [go_sem]) ?_
 refine (lask_idle ⟨rb, 0, none⟩ _).mono ?_
 rintro e u' w'' ⟨rfl, rfl, rfl⟩
 simp [Leaves, settle, results, Tryz.results93, go_sem, Y]
 rw [HB.out.1]
 exact BB.out
theorem KOk.home {S : KS} (h : KOk S) : KOk { S with ph := 2, port := 0, lane := 0 } := ⟨h.r1, h.r64, h.wl, h.wi, Or.inr (Or.inr rfl)⟩
theorem KOk.away {S : KS} (h : KOk S) (P : Int) : KOk { S with ph := 1, port := P } := ⟨h.r1, h.r64, h.wl, h.wi, Or.inr (Or.inl rfl)⟩
set_option maxRecDepth 100000 in
set_option maxHeartbeats 4000000 in
theorem lane_find_at {w : World} {b : Nat} {S : KS} {F : Nat → Prop} (h : Kn w b S F) (node P : Int) (g : Nat) (lb : Array Value) (hg : WayAt w g lb (waitF S) P) : Calls Tryz.prog 53 #[.pointer (some ⟨b, 0, none⟩), .int .i64 node, .func (.func g) #[] lb] w fun e w' => ∃ F', e = .returned (.bool (findK S node P).2) ∧ Kn w' b (findK S node P).1 F' ∧ Gr F w w' F' := by
 obtain ⟨ok, r, pr, mr, sr, hk, rfl⟩ := h
 have LC := look_any hk
 have WC : ∀ v : World, KnAt v b S r pr mr sr → Calls Tryz.prog 91 #[.agg (stc S r)] v fun e w' => e = .returned (.tuple #[flv (waitF S), .bool (waitB S)]) ∧ Below v.heap.size v w' := fun v hv => waiting_any ok hv
 have HK : Hid _ := hk
 have OK : Hid (KOk S) := ok
 have HC := find_cases S node P
 have HA : Hid (∀ (v : World), Below w.heap.size w v → Calls Tryz.prog 93 #[.func (.func g) #[] lb, flv (waitF S)] v fun e w' => e = .returned (.int .i64 P) ∧ Below v.heap.size v w') := show _ from fun v hb => lask_any (hg.next hb)
 obtain ⟨f, hf⟩ : ∃ f, waitF S = f := ⟨_, rfl⟩
 rw [hf] at HC HA
 simp only [hf] at WC
 clear hk ok hg hf
 rcases HC with ⟨h1, h2⟩ | ⟨h1, hp, ⟨h2, h3⟩ | ⟨h2, ⟨h3, h4⟩ | ⟨h3, h4⟩⟩⟩
 ·rw [h2]
  simp only [h1] at WC
  clear h1 h2
  obtain ⟨fk, fs, fd, fq, fl, fm, fc, fx⟩ := f
  simp only [flv, flc, stc] at *
  have WX : Hid _ := WC
  clear WC
  go_enter Tryz.func53, Tryz.ntmps53
  go_wp2_with fail
  go_at_call 83
  with_reducible refine LC.mono ?_
  rintro e w1 ⟨rfl, hb1⟩
  have WW := WX.out w1 (HK.out.next hb1)
  have B1 : Hid (Below w.heap.size w w1) := hb1
  clear LC WX hb1
  go_upto_region 2 with (go_at_call 91; with_reducible refine WW.mono ?_; rintro e w2 ⟨rfl, hb2⟩)
  have B2 : Hid (Below w.heap.size w (w2.alloc (.cells (zq3 fk fs fd fq fl fm fc fx) 112))) := (B1.out.trans (hb2.mono B1.out.size)).alloc (by have := B1.out.size; have := hb2.size; omega) _
  have N2 : Hid (Bk (w2.alloc (.cells (zq3 fk fs fd fq fl fm fc fx) 112)) w2.heap.size (zq3 fk fs fd fq fl fm fc fx) 112) := Bk.new _ _ _
  have K2 : Hid _ := HK.out.next B2.out
  clear WW hb2 B1
  generalize w2.alloc (.cells (zq3 fk fs fd fq fl fm fc fx) 112) = v at *
  generalize w2.heap.size = kf at *
  go_wp2
  go_ret
  exact ⟨_, rfl, ⟨OK.out, r, pr, mr, sr, K2.out, rfl⟩, Gr.of B2.out⟩
 ·rw [h3]
  simp only [h1] at WC
  have HP : Hid (S.ph = 0) := hp
  subst h2
  clear h1 h3 hp
  obtain ⟨fk, fs, fd, fq, fl, fm, fc, fx⟩ := f
  simp only [flv, flc, stc] at *
  have WX : Hid _ := WC
  clear WC
  go_enter Tryz.func53, Tryz.ntmps53
  go_wp2_with fail
  go_at_call 83
  with_reducible refine LC.mono ?_
  rintro e w1 ⟨rfl, hb1⟩
  have WW := WX.out w1 (HK.out.next hb1)
  have B1 : Hid (Below w.heap.size w w1) := hb1
  clear LC WX hb1
  go_upto_region 2 with (go_at_call 91; with_reducible refine WW.mono ?_; rintro e w2 ⟨rfl, hb2⟩)
  have B2 : Hid (Below w.heap.size w (w2.alloc (.cells (zq3 fk fs fd fq fl fm fc fx) 112))) := (B1.out.trans (hb2.mono B1.out.size)).alloc (by have := B1.out.size; have := hb2.size; omega) _
  have N2 : Hid (Bk (w2.alloc (.cells (zq3 fk fs fd fq fl fm fc fx) 112)) w2.heap.size (zq3 fk fs fd fq fl fm fc fx) 112) := Bk.new _ _ _
  have K2 : Hid _ := HK.out.next B2.out
  clear WW hb2 B1
  generalize w2.alloc (.cells (zq3 fk fs fd fq fl fm fc fx) 112) = v at *
  generalize w2.heap.size = kf at *
  have d2 := N2.out.cell 2
  simp only [sqg, sqh, sqt] at d2
  have GC := goes_any K2.out.blk 2 0
  go_wp2_with (go_at_call 92; with_reducible refine GC.mono ?_; rintro e w3 ⟨rfl, hb3, ho3⟩)
  go_ret
  exact ⟨_, rfl, ⟨OK.out.home, r, pr, mr, sr, K2.out.turn (S' := { S with ph := 2, port := 0, lane := 0 }) ho3 hb3 rfl rfl (fun c => absurd rfl c), rfl⟩, (ho3.gr (Or.inl rfl)).after B2.out⟩
 ·rw [h4]
  simp only [h1] at WC
  have HP : Hid (S.ph = 0) := hp
  have h2b : (f.d == node) = false := by simpa using h2
  clear h1 h4 hp
  obtain ⟨fk, fs, fd, fq, fl, fm, fc, fx⟩ := f
  simp only [flv, flc, stc] at *
  have WX : Hid _ := WC
  clear WC
  go_enter Tryz.func53, Tryz.ntmps53
  go_wp2_with fail
  go_at_call 83
  with_reducible refine LC.mono ?_
  rintro e w1 ⟨rfl, hb1⟩
  have WW := WX.out w1 (HK.out.next hb1)
  have B1 : Hid (Below w.heap.size w w1) := hb1
  clear LC WX hb1
  go_upto_region 2 with (go_at_call 91; with_reducible refine WW.mono ?_; rintro e w2 ⟨rfl, hb2⟩)
  have B2 : Hid (Below w.heap.size w (w2.alloc (.cells (zq3 fk fs fd fq fl fm fc fx) 112))) := (B1.out.trans (hb2.mono B1.out.size)).alloc (by have := B1.out.size; have := hb2.size; omega) _
  have N2 : Hid (Bk (w2.alloc (.cells (zq3 fk fs fd fq fl fm fc fx) 112)) w2.heap.size (zq3 fk fs fd fq fl fm fc fx) 112) := Bk.new _ _ _
  have K2 : Hid _ := HK.out.next B2.out
  clear WW hb2 B1
  generalize w2.alloc (.cells (zq3 fk fs fd fq fl fm fc fx) 112) = v at *
  generalize w2.heap.size = kf at *
  have d0 := N2.out.cell 0
  have d1 := N2.out.cell 1
  have d2 := N2.out.cell 2
  have d3 := N2.out.cell 3
  have d4 := N2.out.cell 4
  have d5 := N2.out.cell 5
  have d6 := N2.out.cell 6
  have d7 := N2.out.cell 7
  simp only [sqg, sqh, sqt] at d0 d1 d2 d3 d4 d5 d6 d7
  have AC := HA.out v B2.out
  clear HA
  go_upto_region 8 with (go_at_call 93; with_reducible refine AC.mono ?_; rintro e w3 ⟨rfl, hb3⟩)
  have B3 : Hid (Below w.heap.size w w3) := B2.out.trans (hb3.mono B2.out.size)
  have K3 : Hid _ := K2.out.next hb3
  clear B2 N2 K2 AC hb3 d0 d1 d2 d3 d4 d5 d6 d7
  have p0 : ¬ P ≤ 0 := by omega
  have p1 : ¬ 5 ≤ P := by omega
  have q0 : decide (P ≤ 0) = false := by simpa using p0
  have q1 : decide (5 ≤ P) = false := by simpa using p1
  have GC := goes_any K3.out.blk 1 P
  go_wp2_with (go_at_call 92; with_reducible refine GC.mono ?_; rintro e w4 ⟨rfl, hb4, ho4⟩)
  go_ret
  have hl : S.lane = 0 := K3.out.lz (by rw [HP.out]; decide)
  refine ⟨_, rfl, ⟨OK.out.away P, r, pr, mr, sr, K3.out.turn (S' := { S with ph := 1, port := P }) ho4 ?_ rfl rfl (fun _ => hl), rfl⟩, (ho4.gr (Or.inl rfl)).after B3.out⟩
  simp only [stc, hl]
  exact hb4
 ·rw [h4]
  simp only [h1] at WC
  have HP : Hid (S.ph = 0) := hp
  have h2b : (f.d == node) = false := by simpa using h2
  clear h1 h4 hp
  obtain ⟨fk, fs, fd, fq, fl, fm, fc, fx⟩ := f
  simp only [flv, flc, stc] at *
  have WX : Hid _ := WC
  clear WC
  go_enter Tryz.func53, Tryz.ntmps53
  go_wp2_with fail
  go_at_call 83
  with_reducible refine LC.mono ?_
  rintro e w1 ⟨rfl, hb1⟩
  have WW := WX.out w1 (HK.out.next hb1)
  have B1 : Hid (Below w.heap.size w w1) := hb1
  clear LC WX hb1
  go_upto_region 2 with (go_at_call 91; with_reducible refine WW.mono ?_; rintro e w2 ⟨rfl, hb2⟩)
  have B2 : Hid (Below w.heap.size w (w2.alloc (.cells (zq3 fk fs fd fq fl fm fc fx) 112))) := (B1.out.trans (hb2.mono B1.out.size)).alloc (by have := B1.out.size; have := hb2.size; omega) _
  have N2 : Hid (Bk (w2.alloc (.cells (zq3 fk fs fd fq fl fm fc fx) 112)) w2.heap.size (zq3 fk fs fd fq fl fm fc fx) 112) := Bk.new _ _ _
  have K2 : Hid _ := HK.out.next B2.out
  clear WW hb2 B1
  generalize w2.alloc (.cells (zq3 fk fs fd fq fl fm fc fx) 112) = v at *
  generalize w2.heap.size = kf at *
  have d0 := N2.out.cell 0
  have d1 := N2.out.cell 1
  have d2 := N2.out.cell 2
  have d3 := N2.out.cell 3
  have d4 := N2.out.cell 4
  have d5 := N2.out.cell 5
  have d6 := N2.out.cell 6
  have d7 := N2.out.cell 7
  simp only [sqg, sqh, sqt] at d0 d1 d2 d3 d4 d5 d6 d7
  have AC := HA.out v B2.out
  clear HA
  go_upto_region 8 with (go_at_call 93; with_reducible refine AC.mono ?_; rintro e w3 ⟨rfl, hb3⟩)
  have B3 : Hid (Below w.heap.size w w3) := B2.out.trans (hb3.mono B2.out.size)
  have K3 : Hid _ := K2.out.next hb3
  clear B2 N2 K2 AC hb3 d0 d1 d2 d3 d4 d5 d6 d7
  have hq : (P ≤ 0) ∨ (¬ P ≤ 0 ∧ 5 ≤ P) := by omega
  rcases hq with q0 | ⟨q0, q1⟩
  ·have q2 : decide (P ≤ 0) = true := by simpa using q0
   go_wp2
   go_ret
   exact ⟨_, rfl, ⟨OK.out, r, pr, mr, sr, K3.out, rfl⟩, Gr.of B3.out⟩
  ·have q2 : decide (P ≤ 0) = false := by simpa using q0
   have q3 : decide (5 ≤ P) = true := by simpa using q1
   go_wp2
   go_ret
   exact ⟨rfl, _, ⟨OK.out, r, pr, mr, sr, K3.out, rfl⟩, Gr.of B3.out⟩
end Go.Proofs.YtmmegmonmilkcaaGreatDoor
namespace Go.Proofs.YtmmegmonmilkcaaGreatDoor
open Go.RowKit
theorem readR_err {x : Nat} (h : ¬ (readR x).2 = 0) : (readR x).1.m = false := by
 unfold readR at h ⊢
 split
 ·split
  ·rename_i h1 h2
   rw [if_pos h1, if_pos h2] at h
   exact absurd rfl h
  ·rfl
 ·rfl
set_option maxRecDepth 100000 in
set_option maxHeartbeats 2000000 in
theorem follows_any (x : Nat) (hx : x < 18446744073709551616) (w : World) : Calls Tryz.prog 144 #[.int .u64 (x : Int)] w fun e w' => e = .returned (.bool (readR x).1.m) ∧ Below w.heap.size w w' := by
 have FR := fread_any x hx w
 have HE := readR_err (x := x)
 obtain ⟨f, hf⟩ : ∃ f, (readR x).1 = f := ⟨_, rfl⟩
 obtain ⟨er, her⟩ : ∃ e, (readR x).2 = e := ⟨_, rfl⟩
 rw [hf, her] at HE FR
 rw [hf]
 clear hf her
 obtain ⟨fk, fs, fd, fq, fl, fm, fc, fx⟩ := f
 simp only [flv, flc] at *
 have HT : Hid (((er == 0) = false ∧ fm = false) ∨ (er == 0) = true) := show _ ∨ _ from by
  by_cases a : er = 0
  ·exact Or.inr (by simpa using a)
  ·exact Or.inl ⟨by simpa using a, HE a⟩
 clear HE
 generalize (x : Int) = X at *
 rcases HT.out with ⟨t1, rfl⟩ | t1
 all_goals
  clear HT
  go_enter Tryz.func144, Tryz.ntmps144
  go_upto_region 2 with (go_at_call 118; with_reducible refine FR.mono ?_; rintro e w2 ⟨rfl, hb2⟩)
 ·have KB : Hid (Below w.heap.size w (w2.alloc (.cells (zq3 fk fs fd fq fl false fc fx) 112))) := hb2.alloc hb2.size _
  have K4 := (Bk.new w2 (zq3 fk fs fd fq fl false fc fx) 112).cell 5
  simp only [sqg, sqh, sqt] at K4
  generalize w2.alloc (.cells (zq3 fk fs fd fq fl false fc fx) 112) = v at *
  clear FR hb2
  go_wp2
  go_ret
  exact ⟨rfl, KB.out⟩
 ·have KB : Hid (Below w.heap.size w (w2.alloc (.cells (zq3 fk fs fd fq fl fm fc fx) 112))) := hb2.alloc hb2.size _
  have K4 := (Bk.new w2 (zq3 fk fs fd fq fl fm fc fx) 112).cell 5
  simp only [sqg, sqh, sqt] at K4
  generalize w2.alloc (.cells (zq3 fk fs fd fq fl fm fc fx) 112) = v at *
  clear FR hb2
  go_wp2
  go_ret
  exact ⟨rfl, KB.out⟩
theorem Bk.five {v : World} {k : Nat} {c0 c1 c2 c3 c4 : Value} {t : TypeId} (h : Bk v k #[c0, c1, c2, c3, c4] t) :
  v.cell? ⟨k, 0, none⟩ = some c0 ∧ v.cell? ⟨k, 1, none⟩ = some c1 ∧ v.cell? ⟨k, 2, none⟩ = some c2 ∧ v.cell? ⟨k, 3, none⟩ = some c3 ∧ v.cell? ⟨k, 4, none⟩ = some c4 := by
 refine ⟨?_, ?_, ?_, ?_, ?_⟩ <;> (rw [h.cell]; rfl)
theorem Bk.free5 {v : World} {k : Nat} {cs : Array Value} {t : TypeId} (h : Bk v k cs t) :
  v.frozen? ⟨k, 0, none⟩ = false ∧ v.frozen? ⟨k, 1, none⟩ = false ∧ v.frozen? ⟨k, 2, none⟩ = false ∧ v.frozen? ⟨k, 3, none⟩ = false ∧ v.frozen? ⟨k, 4, none⟩ = false :=
 ⟨h.free 0, h.free 1, h.free 2, h.free 3, h.free 4⟩
theorem Bk.set5 {v : World} {k : Nat} {c0 c1 c2 c3 c4 x0 x1 x2 x3 x4 : Value} {t : TypeId} (h : Bk v k #[c0, c1, c2, c3, c4] t) :
  Bk (((((v.setCell ⟨k, 0, none⟩ x0).setCell ⟨k, 1, none⟩ x1).setCell ⟨k, 2, none⟩ x2).setCell ⟨k, 3, none⟩ x3).setCell ⟨k, 4, none⟩ x4) k #[x0, x1, x2, x3, x4] t := by
 have := ((((h.set 0 x0).set 1 x1).set 2 x2).set 3 x3).set 4 x4
 simpa using this
theorem below_five {B : Nat} {w v : World} {k : Nat} {x0 x1 x2 x3 x4 : Value} (h : Below B w v) (hk : B ≤ k) :
  Below B w (((((v.setCell ⟨k, 0, none⟩ x0).setCell ⟨k, 1, none⟩ x1).setCell ⟨k, 2, none⟩ x2).setCell ⟨k, 3, none⟩ x3).setCell ⟨k, 4, none⟩ x4) :=
 ((((h.setCell hk _).setCell hk _).setCell hk _).setCell hk _).setCell hk _
theorem out_world (w : World) (cs : Array Value) : Below w.heap.size w ((w.alloc (.cells cs 148)).alloc (.cells (zq4 0 0 0 false false) 61)) ∧ Bk ((w.alloc (.cells cs 148)).alloc (.cells (zq4 0 0 0 false false) 61)) w.heap.size cs 148 ∧ Bk ((w.alloc (.cells cs 148)).alloc (.cells (zq4 0 0 0 false false) 61)) (w.heap.size + 1) (zq4 0 0 0 false false) 61 := by
 refine ⟨((Below.refl _ _).alloc (Nat.le_refl _) _).alloc (by simp) _, (Bk.new w _ _).alloc _, ?_⟩
 have := Bk.new (w.alloc (.cells cs 148)) (zq4 0 0 0 false false) 61
 simpa using this
set_option maxRecDepth 100000 in
set_option maxHeartbeats 2000000 in
theorem out_any (S : KS) (r x : Nat) (hx : x < 18446744073709551616) (w : World) : Calls Tryz.prog 126 #[.agg (stc S r), .int .u64 (x : Int)] w fun e w' => e = .returned (kov (outK S x)) ∧ Below w.heap.size w w' := by
 obtain ⟨W1, W2, W3⟩ := out_world w (stc S r)
 have KC := fun v => kind_any x hx v
 have HB0 : Hid (Below w.heap.size w ((w.alloc (.cells (stc S r) 148)).alloc (.cells (zq4 0 0 0 false false) 61))) := W1
 have N2 : Hid (Bk ((w.alloc (.cells (stc S r) 148)).alloc (.cells (zq4 0 0 0 false false) 61)) w.heap.size (stc S r) 148) := W2
 have N3 : Hid (Bk ((w.alloc (.cells (stc S r) 148)).alloc (.cells (zq4 0 0 0 false false) 61)) (w.heap.size + 1) (zq4 0 0 0 false false) 61) := W3
 clear W1 W2 W3
 simp only [stc, kov, koc, outK] at *
 generalize S.port = so at *
 generalize S.lane = sl at *
 generalize S.cp = sc at *
 generalize S.ph = sp at *
 obtain ⟨k, hk⟩ : ∃ k, x % 4 = k := ⟨_, rfl⟩
 rw [hk] at KC ⊢
 generalize (x : Int) = X at *
 clear hk hx
 obtain ⟨G, hG⟩ : ∃ G, (decide (so ≠ 0) && (sc && decide (k ≠ 1))) = G := ⟨_, rfl⟩
 obtain ⟨E, hE⟩ : ∃ E, decide (k = 3) = E := ⟨_, rfl⟩
 have HT : Hid (((so != 0) = false ∧ G = false) ∨ ((so != 0) = true ∧ sc = false ∧ G = false) ∨ ((so != 0) = true ∧ sc = true ∧ ((k : Int) != 1) = G)) := show _ ∨ _ from by
  rw [← hG]
  by_cases a : so = 0
  ·exact Or.inl ⟨by simpa using a, by simp [a]⟩
  ·cases sc
   ·exact Or.inr (Or.inl ⟨by simpa using a, rfl, by simp⟩)
   ·refine Or.inr (Or.inr ⟨by simpa using a, rfl, ?_⟩)
    by_cases c : k = 1
    ·subst c; simp
    ·have c' : ¬ (k : Int) = 1 := by omega
     simp [a, c, c']
 have HE : Hid (((k : Int) == 3) = E) := show ((k : Int) == 3) = E from by
  rw [← hE]
  by_cases c : k = 3
  ·subst c; rfl
  ·have c' : ¬ (k : Int) = 3 := by omega
   simp [c, c']
 rw [hG, hE]
 clear hG hE
 go_enter Tryz.func126, Tryz.ntmps126
 go_upto_region 1 with fail
 generalize (w.alloc (.cells (zq8 (some ⟨r, 0, none⟩) sp so sl sc) 148)).alloc (.cells (zq4 0 0 0 false false) 61) = v at *
 obtain ⟨nb, hnb⟩ : ∃ x, w.heap.size = x := ⟨_, rfl⟩
 obtain ⟨rb, hrb⟩ : ∃ x, w.heap.size + 1 = x := ⟨_, rfl⟩
 have HB : Hid (w.heap.size = nb ∧ nb + 1 = rb) := ⟨hnb, by rw [← hrb, hnb]⟩
 rw [hrb] at N3 ⊢
 rw [hnb] at HB0 N2 ⊢
 clear hnb hrb
 have KV := KC v
 clear KC
 go_upto_region 2 with (go_at_call 143; with_reducible refine KV.mono ?_; rintro e w1 ⟨rfl, m, rfl⟩)
 have M2 : Bk (v.drewN m) nb (zq8 (some ⟨r, 0, none⟩) sp so sl sc) 148 := N2.out.drewN m
 have M3 : Bk (v.drewN m) rb (zq4 0 0 0 false false) 61 := N3.out.drewN m
 have MB : Hid (Below nb w (v.drewN m)) := dn HB0.out m
 clear KV N2 N3 HB0
 generalize v.drewN m = u at *
 obtain ⟨c0, c1, c2, c3, c4⟩ := M2.five
 obtain ⟨d0, d1, d2, d3, d4⟩ := M3.five
 obtain ⟨z0, z1, z2, z3, z4⟩ := M3.free5
 obtain ⟨y0, y1, y2, y3, y4⟩ := (M3.set5 (x0 := .int .i64 so) (x1 := .int .i64 sl) (x2 := .int .u64 X) (x3 := .bool G) (x4 := .bool E)).five
 have hE := HE.out
 clear M2 M3 HE
 rcases HT.out with ⟨t1, rfl⟩ | ⟨t1, rfl, rfl⟩ | ⟨t1, rfl, t2⟩
 ·clear HT
  go_wp2
  refine bodyPost_ret (v := .agg (zq4 so sl X false E)) ?_ rfl ?_
  ·simp [results, Tryz.results126, go_sem, y0, y1, y2, y3, y4]
  ·exact ⟨rfl, by rw [HB.out.1]; exact below_five MB.out (by have := HB.out.2; omega)⟩
 ·clear HT
  go_wp2
  refine bodyPost_ret (v := .agg (zq4 so sl X false E)) ?_ rfl ?_
  ·simp [results, Tryz.results126, go_sem, y0, y1, y2, y3, y4]
  ·exact ⟨rfl, by rw [HB.out.1]; exact below_five MB.out (by have := HB.out.2; omega)⟩
 ·clear HT
  go_wp2
  refine bodyPost_ret (v := .agg (zq4 so sl X G E)) ?_ rfl ?_
  ·simp [results, Tryz.results126, go_sem, y0, y1, y2, y3, y4]
  ·exact ⟨rfl, by rw [HB.out.1]; exact below_five MB.out (by have := HB.out.2; omega)⟩
theorem next_cells (S : KS) (r x : Nat) (t : List Nat) :
  (x % 4 = 3 ∧ stc (nextK S x t) r = (zq8 (some ⟨r, 0, none⟩) 0 0 0 false)) ∨
  (x % 4 = 1 ∧ ((S.port = 0 ∧ (readR x).1.m = true ∧ stc (nextK S x t) r = (zq8 (some ⟨r, 0, none⟩) 0 0 0 true)) ∨ (S.port = 0 ∧ (readR x).1.m = false ∧ stc (nextK S x t) r = stc S r) ∨ (¬ S.port = 0 ∧ stc (nextK S x t) r = stc S r))) ∨
  (¬ x % 4 = 3 ∧ ¬ x % 4 = 1 ∧ stc (nextK S x t) r = stc S r) := by
 unfold nextK
 by_cases h3 : x % 4 = 3
 ·rw [if_pos h3]
  exact Or.inl ⟨h3, rfl⟩
 ·rw [if_neg h3]
  by_cases h1 : x % 4 = 1
  ·refine Or.inr (Or.inl ⟨h1, ?_⟩)
   by_cases hp : S.port = 0
   ·by_cases hm : (readR x).1.m = true
    ·rw [if_pos ⟨h1, hp, hm⟩]
     exact Or.inl ⟨hp, hm, rfl⟩
    ·rw [if_neg fun c => hm c.2.2]
     exact Or.inr (Or.inl ⟨hp, by simpa using hm, rfl⟩)
   ·rw [if_neg fun c => hp c.2.1]
    exact Or.inr (Or.inr ⟨hp, rfl⟩)
  ·rw [if_neg fun c => h1 c.1]
   exact Or.inr (Or.inr ⟨h3, h1, rfl⟩)
theorem Bk.four5 {v : World} {k : Nat} {c0 c1 c2 c3 c4 x1 x2 x3 x4 : Value} {t : TypeId} (h : Bk v k #[c0, c1, c2, c3, c4] t) :
  Bk ((((v.setCell ⟨k, 1, none⟩ x1).setCell ⟨k, 2, none⟩ x2).setCell ⟨k, 3, none⟩ x3).setCell ⟨k, 4, none⟩ x4) k #[c0, x1, x2, x3, x4] t := by
 have := (((h.set 1 x1).set 2 x2).set 3 x3).set 4 x4
 simpa using this
theorem On.four {b : Nat} {w v : World} (h : On b w v) (x1 x2 x3 x4 : Value) : On b w ((((v.setCell ⟨b, 1, none⟩ x1).setCell ⟨b, 2, none⟩ x2).setCell ⟨b, 3, none⟩ x3).setCell ⟨b, 4, none⟩ x4) :=
 (((h.set 1 x1).set 2 x2).set 3 x3).set 4 x4
set_option maxRecDepth 100000 in
set_option maxHeartbeats 2000000 in
theorem taken_any {w : World} {b : Nat} {S : KS} {r : Nat} (h : Bk w b (stc S r) 162) (x : Nat) (hx : x < 18446744073709551616) (t : List Nat) : Calls Tryz.prog 127 #[.pointer (some ⟨b, 0, none⟩), .int .u64 (x : Int)] w fun e w' => e = .returned (.tuple #[]) ∧ Bk w' b (stc (nextK S x t) r) 162 ∧ On b w w' := by
 have KC := kind_any x hx w
 have FC := fun v => follows_any x hx v
 have HB : Hid (Bk w b (stc S r) 162) := h
 have HN := next_cells S r x t
 generalize stc (nextK S x t) r = cs at *
 obtain ⟨M, hM⟩ : ∃ M, (readR x).1.m = M := ⟨_, rfl⟩
 rw [hM] at HN
 simp only [hM] at FC
 clear hM h hx
 rcases HN with ⟨h3, rfl⟩ | ⟨h1, ⟨hp, rfl, rfl⟩ | ⟨hp, rfl, rfl⟩ | ⟨hp, rfl⟩⟩ | ⟨h3, h1, rfl⟩
 ·rw [show ((x % 4 : Nat) : Int) = 3 by omega] at KC
  generalize (x : Int) = X at *
  clear h3 FC
  go_enter Tryz.func127, Tryz.ntmps127
  go_upto_region 1 with (go_at_call 143; with_reducible refine KC.mono ?_; rintro e w1 ⟨rfl, m, rfl⟩)
  have N : Hid (Bk (w.drewN m) b (stc S r) 162) := HB.out.drewN m
  have O : Hid (On b w (w.drewN m)) := (On.refl b w).drewN m
  clear HB KC
  generalize w.drewN m = v at *
  obtain ⟨c0, c1, c2, c3, c4⟩ := N.out.five
  obtain ⟨z0, z1, z2, z3, z4⟩ := N.out.free5
  go_wp2
  exact bodyPost_end (results_none rfl _ _ _) rfl ⟨rfl, N.out.four5, O.out.four _ _ _ _⟩
 ·rw [show ((x % 4 : Nat) : Int) = 1 by omega] at KC
  generalize (x : Int) = X at *
  clear h1
  go_enter Tryz.func127, Tryz.ntmps127
  go_upto_region 1 with (go_at_call 143; with_reducible refine KC.mono ?_; rintro e w1 ⟨rfl, m, rfl⟩)
  have N : Hid (Bk (w.drewN m) b (stc S r) 162) := HB.out.drewN m
  have O : Hid (On b w (w.drewN m)) := (On.refl b w).drewN m
  clear HB KC
  generalize w.drewN m = v at *
  obtain ⟨c0, c1, c2, c3, c4⟩ := N.out.five
  rw [hp] at c2
  have FV := FC v
  clear FC hp c0 c1 c3 c4
  go_upto_region 5 with (go_at_call 144; with_reducible refine FV.mono ?_; rintro e w2 ⟨rfl, hb2⟩)
  have N2 : Hid (Bk w2 b (stc S r) 162) := N.out.next hb2
  have O2 : Hid (On b w w2) := O.out.below hb2
  clear N O FV c2 hb2
  obtain ⟨c0, c1, c2, c3, c4⟩ := N2.out.five
  obtain ⟨z0, z1, z2, z3, z4⟩ := N2.out.free5
  go_wp2
  exact bodyPost_end (results_none rfl _ _ _) rfl ⟨rfl, N2.out.four5, O2.out.four _ _ _ _⟩
 ·rw [show ((x % 4 : Nat) : Int) = 1 by omega] at KC
  generalize (x : Int) = X at *
  clear h1
  go_enter Tryz.func127, Tryz.ntmps127
  go_upto_region 1 with (go_at_call 143; with_reducible refine KC.mono ?_; rintro e w1 ⟨rfl, m, rfl⟩)
  have N : Hid (Bk (w.drewN m) b (stc S r) 162) := HB.out.drewN m
  have O : Hid (On b w (w.drewN m)) := (On.refl b w).drewN m
  clear HB KC
  generalize w.drewN m = v at *
  obtain ⟨c0, c1, c2, c3, c4⟩ := N.out.five
  rw [hp] at c2
  have FV := FC v
  clear FC hp c0 c1 c3 c4
  go_wp2_with (go_at_call 144; with_reducible refine FV.mono ?_; rintro e w2 ⟨rfl, hb2⟩)
  exact bodyPost_end (results_none rfl _ _ _) rfl ⟨rfl, N.out.next hb2, O.out.below hb2⟩
 ·rw [show ((x % 4 : Nat) : Int) = 1 by omega] at KC
  generalize (x : Int) = X at *
  clear h1 FC
  have p1 : (S.port == 0) = false := by simpa using hp
  go_enter Tryz.func127, Tryz.ntmps127
  go_upto_region 1 with (go_at_call 143; with_reducible refine KC.mono ?_; rintro e w1 ⟨rfl, m, rfl⟩)
  have N : Hid (Bk (w.drewN m) b (stc S r) 162) := HB.out.drewN m
  have O : Hid (On b w (w.drewN m)) := (On.refl b w).drewN m
  clear HB KC
  generalize w.drewN m = v at *
  obtain ⟨c0, c1, c2, c3, c4⟩ := N.out.five
  generalize S.port = so at *
  clear c0 c1 c3 c4
  go_wp2
  exact bodyPost_end (results_none rfl _ _ _) rfl ⟨rfl, N.out, O.out⟩
 ·obtain ⟨k, hk⟩ : ∃ k : Int, ((x % 4 : Nat) : Int) = k := ⟨_, rfl⟩
  have t3 : (k == 3) = false := by
   have : ¬ k = 3 := by omega
   simpa using this
  have t1 : (k == 1) = false := by
   have : ¬ k = 1 := by omega
   simpa using this
  rw [hk] at KC
  generalize (x : Int) = X at *
  clear h1 h3 FC hk
  go_enter Tryz.func127, Tryz.ntmps127
  go_upto_region 1 with (go_at_call 143; with_reducible refine KC.mono ?_; rintro e w1 ⟨rfl, m, rfl⟩)
  have N : Hid (Bk (w.drewN m) b (stc S r) 162) := HB.out.drewN m
  have O : Hid (On b w (w.drewN m)) := (On.refl b w).drewN m
  clear HB KC
  generalize w.drewN m = v at *
  go_wp2
  exact bodyPost_end (results_none rfl _ _ _) rfl ⟨rfl, N.out, O.out⟩
end Go.Proofs.YtmmegmonmilkcaaGreatDoor
namespace Go.Proofs.YtmmegmonmilkcaaGreatDoor
open Go.RowKit
theorem take_cases (S : KS) : (¬ S.ph = 2 ∧ takeK S = (S, zko, 13)) ∨ (S.ph = 2 ∧ ((S.ws = [] ∧ takeK S = (S, zko, 8)) ∨ ∃ x t, S.ws = x :: t ∧ takeK S = (nextK S x t, outK S x, 0))) := by
 unfold takeK
 by_cases h : S.ph = 2
 ·rw [if_pos h]
  refine Or.inr ⟨h, ?_⟩
  cases e : S.ws with
  | nil => exact Or.inl ⟨rfl, rfl⟩
  | cons x t => exact Or.inr ⟨x, t, rfl, rfl⟩
 ·rw [if_neg h]
  exact Or.inl ⟨h, rfl⟩
abbrev zo5 : Array Value := (zq4 0 0 0 false false)
section
variable {w : World} {b : Nat} {S : KS} {F : Nat → Prop}
set_option maxRecDepth 100000 in
set_option maxHeartbeats 4000000 in
theorem lane_take (h : Kn w b S F) : Calls Tryz.prog 99 #[.pointer (some ⟨b, 0, none⟩)] w fun e w' => ∃ F', e = .returned (.tuple #[kov (takeK S).2.1, .int .i64 (takeK S).2.2]) ∧ Kn w' b (takeK S).1 F' ∧ Gr F w w' F' := by
 have okT := h.ok.take
 obtain ⟨ok, r, pr, mr, sr, hk, rfl⟩ := h
 have OK : Hid (KOk S) := ok
 have B0 : Hid (Below w.heap.size w (w.alloc (.cells zo5 61))) := (Below.refl _ _).alloc (Nat.le_refl _) _
 have N0 : Hid (Bk (w.alloc (.cells zo5 61)) w.heap.size zo5 61) := Bk.new _ _ _
 have K0 : Hid _ := hk.next B0.out
 have nF : Hid (¬ fk b r pr w.heap.size) := show ¬ fk b r pr w.heap.size from fun c => by have := hk.lt _ c; omega
 clear hk
 simp only [zo5] at *
 rcases take_cases S with ⟨hp, e1⟩ | ⟨hp, ⟨hw, e1⟩ | ⟨x, t, hw, e1⟩⟩
 ·rw [e1]
  clear okT e1 ok
  simp only [kov, koc, zko]
  have t1 : (S.ph != 2) = true := by simpa using hp
  obtain ⟨c0, c1, c2, c3, c4⟩ := K0.out.blk.five
  have hne : ¬ b = w.heap.size := fun e => nF.out (Or.inl e.symm)
  generalize S.ph = sp at *
  clear hp
  go_enter Tryz.func99, Tryz.ntmps99
  go_upto_region 1 with fail
  generalize w.alloc (.cells (zq4 0 0 0 false false) 61) = v at *
  obtain ⟨nb, hnb⟩ : ∃ x, w.heap.size = x := ⟨_, rfl⟩
  have HB : Hid (w.heap.size = nb) := hnb
  rw [hnb] at B0 N0 nF hne ⊢
  clear hnb
  obtain ⟨d0, d1, d2, d3, d4⟩ := N0.out.five
  obtain ⟨z0, z1, z2, z3, z4⟩ := N0.out.free5
  obtain ⟨y0, y1, y2, y3, y4⟩ := (N0.out.set5 (x0 := .int .i64 0) (x1 := .int .i64 0) (x2 := .int .u64 0) (x3 := .bool false) (x4 := .bool false)).five
  go_wp2
  refine bodyPost_ret (v := .tuple #[.agg (zq4 0 0 0 false false), .int .i64 13]) ?_ rfl ?_
  ·simp [results, Tryz.results99, go_sem, y0, y1, y2, y3, y4]
  ·have KX : Kn v b S (fk b r pr) := ⟨OK.out, r, pr, mr, sr, K0.out, rfl⟩
   exact ⟨_, rfl, ((((KX.far nF.out).far nF.out).far nF.out).far nF.out).far nF.out, by
    have := Gr.of (F := fk b r pr) (show Below w.heap.size w v by rw [HB.out]; exact B0.out)
    exact ((((this.setNew (by rw [HB.out]; exact Nat.le_refl _)).setNew (by rw [HB.out]; exact Nat.le_refl _)).setNew (by rw [HB.out]; exact Nat.le_refl _)).setNew (by rw [HB.out]; exact Nat.le_refl _)).setNew (by rw [HB.out]; exact Nat.le_refl _)⟩
 ·rw [e1]
  clear e1 okT ok
  simp only [kov, koc, zko]
  have PP := RU.ring_pop K0.out.rg
  have k1 : RU.peekV sr = 0 := by unfold RU.peekV; rw [K0.out.xs, hw]; rfl
  have k2 : RU.peekE sr = 8 := by unfold RU.peekE; rw [K0.out.xs, hw]; exact if_pos rfl
  rw [k1, k2] at PP
  have ST : Hid (∀ v w' : World, KnAt v b S r pr mr sr → RU.RingAt w' r pr mr (RU.freeS sr) → RU.Fr r pr v w' → ∃ pr' mr', KnAt w' b S r pr' mr' (RU.freeS sr) ∧ Gr (fk b r pr) v w' (fk b r pr')) := show _ from fun v w' hv hR hF =>
   hv.step (S' := S) ⟨pr, mr, hR, hF, Or.inl rfl⟩ rfl rfl hv.lz (RU.freed_same (s := sr)).2.1 ((RU.freed_same (s := sr)).1.trans hv.laid) (by rw [(RU.freed_same (s := sr)).2.2, hv.xs, hw]; rfl)
  obtain ⟨c0, c1, c2, c3, c4⟩ := K0.out.blk.five
  rw [hp] at c1
  have hne : ¬ b = w.heap.size := fun e => nF.out (Or.inl e.symm)
  have hbl : b < w.heap.size := by have := K0.out.blk.lt; simp at this; omega
  clear hp hw k1 k2
  generalize RU.freeS sr = sr' at *
  go_enter Tryz.func99, Tryz.ntmps99
  go_upto_region 1 with fail
  generalize w.alloc (.cells (zq4 0 0 0 false false) 61) = v at *
  obtain ⟨nb, hnb⟩ : ∃ x, w.heap.size = x := ⟨_, rfl⟩
  have HB : Hid (w.heap.size = nb) := hnb
  rw [hnb] at B0 N0 nF hne hbl ⊢
  clear hnb
  go_upto_region 6 with (go_at_call 125; with_reducible refine PP.mono ?_; rintro e w1 ⟨rfl, hR, hF⟩)
  obtain ⟨pr', mr', kk, gg⟩ := ST.out v w1 K0.out hR hF
  have K1 : Hid (Kn w1 b S (fk b r pr')) := ⟨OK.out, r, pr', mr', sr', kk, rfl⟩
  have G1 : Hid (Gr (fk b r pr) w w1 (fk b r pr')) := gg.after (show Below w.heap.size w v by rw [HB.out]; exact B0.out)
  have N1 : Hid (Bk w1 nb (zq4 0 0 0 false false) 61) := N0.out.gr gg nF.out
  have nF1 : Hid (¬ fk b r pr' nb) := gg.off nF.out N0.out.lt
  clear c0 c1 c2 c3 c4 K0 N0 nF ST PP hR hF kk gg B0
  obtain ⟨d0, d1, d2, d3, d4⟩ := N1.out.five
  obtain ⟨z0, z1, z2, z3, z4⟩ := N1.out.free5
  obtain ⟨y0, y1, y2, y3, y4⟩ := (N1.out.set5 (x0 := .int .i64 0) (x1 := .int .i64 0) (x2 := .int .u64 0) (x3 := .bool false) (x4 := .bool false)).five
  go_wp2
  refine bodyPost_ret (v := .tuple #[.agg (zq4 0 0 0 false false), .int .i64 8]) ?_ rfl ?_
  ·simp [results, Tryz.results99, go_sem, y0, y1, y2, y3, y4]
  ·exact ⟨_, rfl, ((((K1.out.far nF1.out).far nF1.out).far nF1.out).far nF1.out).far nF1.out,
    ((((G1.out.setNew (Nat.le_of_eq HB.out)).setNew (Nat.le_of_eq HB.out)).setNew (Nat.le_of_eq HB.out)).setNew (Nat.le_of_eq HB.out)).setNew (Nat.le_of_eq HB.out)⟩
 ·rw [e1] at okT ⊢
  simp only at okT
  have hx : x < 18446744073709551616 := ok.wi x (by rw [hw]; exact List.mem_cons_self)
  have PP := RU.ring_pop K0.out.rg
  have k1 : RU.peekV sr = (x : Int) := by unfold RU.peekV; rw [K0.out.xs, hw]; rfl
  have k2 : RU.peekE sr = 0 := by unfold RU.peekE; rw [K0.out.xs, hw, if_neg (by simp [wz])]
  rw [k1, k2] at PP
  have ST : Hid (∀ v w' : World, KnAt v b S r pr mr sr → RU.RingAt w' r pr mr (RU.freeS sr) → RU.Fr r pr v w' → ∃ pr' mr', KnAt w' b { S with ws := t } r pr' mr' (RU.freeS sr) ∧ Gr (fk b r pr) v w' (fk b r pr')) := show _ from fun v w' hv hR hF =>
   hv.step (S' := { S with ws := t }) ⟨pr, mr, hR, hF, Or.inl rfl⟩ rfl rfl hv.lz (RU.freed_same (s := sr)).2.1 ((RU.freed_same (s := sr)).1.trans hv.laid) (by rw [(RU.freed_same (s := sr)).2.2, hv.xs, hw]; rfl)
  have OT : Hid (KOk (nextK S x t)) := okT
  have OC : ∀ v : World, Calls Tryz.prog 126 #[.agg (stc S r), .int .u64 (x : Int)] v fun e w' => e = .returned (kov (outK S x)) ∧ Below v.heap.size v w' := fun v => out_any S r x hx v
  have TC : Hid (∀ v : World, Bk v b (stc S r) 162 → Calls Tryz.prog 127 #[.pointer (some ⟨b, 0, none⟩), .int .u64 (x : Int)] v fun e w' => e = .returned (.tuple #[]) ∧ Bk w' b (stc (nextK S x t) r) 162 ∧ On b v w') := show _ from fun v hv => taken_any hv x hx t
  have TU : Hid (∀ (pr' mr' : Nat) (v w' : World), KnAt v b { S with ws := t } r pr' mr' (RU.freeS sr) → On b v w' → Bk w' b (stc (nextK S x t) r) 162 → KnAt w' b (nextK S x t) r pr' mr' (RU.freeS sr)) := show _ from fun pr' mr' v w' hv ho hb => by
   refine hv.turn ho hb ?_ ?_ ?_
   ·unfold nextK; split; · rfl
    split <;> rfl
   ·unfold nextK; split; · rfl
    split <;> rfl
   ·unfold nextK
    split
    ·exact fun _ => rfl
    ·split
     ·exact fun _ => rfl
     ·exact hv.lz
  obtain ⟨c0, c1, c2, c3, c4⟩ := K0.out.blk.five
  rw [hp] at c1
  have hne : ¬ b = w.heap.size := fun e => nF.out (Or.inl e.symm)
  have hbl : b < w.heap.size := by have := K0.out.blk.lt; simp at this; omega
  clear e1 okT ok hw k1 k2
  generalize RU.freeS sr = sr' at *
  generalize outK S x = o at *
  simp only [kov, koc] at *
  generalize nextK S x t = S' at *
  generalize (x : Int) = X at *
  clear hx
  go_enter Tryz.func99, Tryz.ntmps99
  go_upto_region 1 with fail
  generalize w.alloc (.cells (zq4 0 0 0 false false) 61) = v at *
  obtain ⟨nb, hnb⟩ : ∃ x, w.heap.size = x := ⟨_, rfl⟩
  have HB : Hid (w.heap.size = nb) := hnb
  rw [hnb] at B0 N0 nF hne hbl ⊢
  clear hnb
  go_upto_region 6 with (go_at_call 125; with_reducible refine PP.mono ?_; rintro e w1 ⟨rfl, hR, hF⟩)
  obtain ⟨pr', mr', kk, gg⟩ := ST.out v w1 K0.out hR hF
  have K1 : Hid _ := kk
  have G1 : Hid (Gr (fk b r pr) w w1 (fk b r pr')) := gg.after (show Below w.heap.size w v by rw [HB.out]; exact B0.out)
  have N1 : Hid (Bk w1 nb (zq4 0 0 0 false false) 61) := N0.out.gr gg nF.out
  have nF1 : Hid (¬ fk b r pr' nb) := gg.off nF.out N0.out.lt
  have HX : Hid (S.ph = 2) := hp
  clear c0 c1 c2 c3 c4 K0 N0 nF ST PP hR hF kk gg B0 hp
  obtain ⟨c0, c1, c2, c3, c4⟩ := K1.out.blk.five
  have OW := OC w1
  clear OC
  simp only [stc] at *
  go_upto_region 9 with (go_at_call 126; with_reducible refine OW.mono ?_; rintro e w2 ⟨rfl, hb2⟩)
  have bb : Below w1.heap.size w1 (w2.alloc (.cells (zq4 o.port o.lane (o.word : Int) o.copy o.ends) 61)) := hb2.alloc hb2.size _
  have K2 : Hid _ := K1.out.next bb
  have G2 : Hid (Gr (fk b r pr) w (w2.alloc (.cells (zq4 o.port o.lane (o.word : Int) o.copy o.ends) 61)) (fk b r pr')) := G1.out.below bb
  have N2 : Hid (Bk (w2.alloc (.cells (zq4 o.port o.lane (o.word : Int) o.copy o.ends) 61)) nb (zq4 0 0 0 false false) 61) := N1.out.next bb
  have M2 : Hid (Bk (w2.alloc (.cells (zq4 o.port o.lane (o.word : Int) o.copy o.ends) 61)) w2.heap.size (zq4 o.port o.lane (o.word : Int) o.copy o.ends) 61) := Bk.new _ _ _
  have HL : nb < w2.heap.size := Nat.lt_of_lt_of_le N1.out.lt hb2.size
  clear K1 G1 N1 OW hb2 bb c0 c1 c2 c3 c4
  generalize w2.alloc (.cells (zq4 o.port o.lane (o.word : Int) o.copy o.ends) 61) = v2 at *
  generalize w2.heap.size = kb at *
  have TV := TC.out v2 K2.out.blk
  clear TC
  go_upto_region 10 with (go_at_call 127; with_reducible refine TV.mono ?_; rintro e w3 ⟨rfl, hb3, ho3⟩)
  have K3 : Hid (Kn w3 b S' (fk b r pr')) := ⟨OT.out, r, pr', mr', sr', TU.out pr' mr' v2 w3 K2.out ho3 hb3, rfl⟩
  have G3 : Hid (Gr (fk b r pr) w w3 (fk b r pr')) := G2.out.trans (ho3.gr (Or.inl rfl))
  have N3 : Hid (Bk w3 nb (zq4 0 0 0 false false) 61) := N2.out.on ho3 (fun e => hne e.symm)
  have M3 : Hid (Bk w3 kb (zq4 o.port o.lane (o.word : Int) o.copy o.ends) 61) := M2.out.on ho3 (by omega)
  have hk1 : ¬ kb = nb := by omega
  have hk2 : ¬ nb = kb := by omega
  clear K2 G2 N2 M2 TV TU hb3 ho3
  obtain ⟨c0, c1, c2, c3, c4⟩ := M3.out.five
  obtain ⟨d0, d1, d2, d3, d4⟩ := N3.out.five
  obtain ⟨z0, z1, z2, z3, z4⟩ := N3.out.free5
  obtain ⟨y0, y1, y2, y3, y4⟩ := (N3.out.set5 (x0 := .int .i64 o.port) (x1 := .int .i64 o.lane) (x2 := .int .u64 (o.word : Int)) (x3 := .bool o.copy) (x4 := .bool o.ends)).five
  clear HL
  go_wp2
  refine bodyPost_ret (v := .tuple #[.agg (zq4 o.port o.lane (o.word : Int) o.copy o.ends), .int .i64 0]) ?_ rfl ?_
  ·simp [results, Tryz.results99, go_sem, y0, y1, y2, y3, y4]
  ·exact ⟨_, rfl, ((((K3.out.far nF1.out).far nF1.out).far nF1.out).far nF1.out).far nF1.out,
    ((((G3.out.setNew (Nat.le_of_eq HB.out)).setNew (Nat.le_of_eq HB.out)).setNew (Nat.le_of_eq HB.out)).setNew (Nat.le_of_eq HB.out)).setNew (Nat.le_of_eq HB.out)⟩
end
theorem knil_put (x : Nat) (w : World) : Calls Tryz.prog 47 #[.pointer none, .int .u64 (x : Int)] w fun e w' => e = .returned (.int .i64 1) ∧ Below w.heap.size w w' := by
 have LC := look_nil w
 have RC := fun v => RU.rgnil_push (x : Int) v
 have FX := fun p a b c d v => stField0 p a b c d v
 simp only [stn] at LC
 go_enter Tryz.func47, Tryz.ntmps47
 go_wp2_with (first | (go_at_call 83; with_reducible refine LC.mono ?_; rintro e w1 ⟨rfl, hb1⟩) | (go_at_call 84; with_reducible refine (RC _).mono ?_; rintro e w2 ⟨rfl, rfl⟩))
 go_ret
 exact ⟨rfl, hb1⟩
theorem knil_phase (w : World) : Calls Tryz.prog 59 #[.pointer none] w fun e w' => e = .returned (.int .i64 0) ∧ Below w.heap.size w w' := by
 have LC := look_nil w
 have FX := fun p a b c d v => stField1 p a b c d v
 have FY := fun a b c v => paField0 a b c v
 simp only [stn] at LC
 go_enter Tryz.func59, Tryz.ntmps59
 go_wp2_with (go_at_call 83; with_reducible refine LC.mono ?_; rintro e w1 ⟨rfl, hb1⟩)
 go_ret
 exact ⟨rfl, hb1⟩
theorem knil_len (w : World) : Calls Tryz.prog 76 #[.pointer none] w fun e w' => e = .returned (.int .i64 0) ∧ Below w.heap.size w w' := by
 have LC := look_nil w
 have RC := fun v => RU.rgnil_len v
 have FX := fun p a b c d v => stField0 p a b c d v
 simp only [stn] at LC
 go_enter Tryz.func76, Tryz.ntmps76
 go_wp2_with (first | (go_at_call 83; with_reducible refine LC.mono ?_; rintro e w1 ⟨rfl, hb1⟩) | (go_at_call 104; with_reducible refine (RC _).mono ?_; rintro e w2 ⟨rfl, rfl⟩))
 go_ret
 exact ⟨rfl, hb1⟩
theorem knil_room (w : World) : Calls Tryz.prog 77 #[.pointer none] w fun e w' => e = .returned (.int .i64 0) ∧ Below w.heap.size w w' := by
 have LC := look_nil w
 have RC := fun v => RU.rgnil_room v
 have FX := fun p a b c d v => stField0 p a b c d v
 simp only [stn] at LC
 go_enter Tryz.func77, Tryz.ntmps77
 go_wp2_with (first | (go_at_call 83; with_reducible refine LC.mono ?_; rintro e w1 ⟨rfl, hb1⟩) | (go_at_call 105; with_reducible refine (RC _).mono ?_; rintro e w2 ⟨rfl, rfl⟩))
 go_ret
 exact ⟨rfl, hb1⟩
end Go.Proofs.YtmmegmonmilkcaaGreatDoor
