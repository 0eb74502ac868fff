/-
 The walks of Len, limit, place, Counts and Room over known cells.
 What a ring is in memory (RingAt), what may turn (Fr), and plain lemmas on them.
 Peek, Publish, Free over a ring.
 All over a ring.
 widen over a ring.
 Lay, Push, Pop over a ring.
 Each call of a ring as one contract with plain functions on the state.
 A ring that has just been made.
-/
import Derived.Test.YtmmegmonmilkcaaGreatDoorSq
import Derived.Test.YtmmegmonmilkcaaGreatDoorProg
import Derived.WalkKit
import Derived.BigQuiet
import Derived.Deep.QuietTactic
import Derived.WalkSpells
import Derived.WalkLawsBesides
import Derived.KernelRfl
import Derived.WalkSmall
namespace Go.Proofs.YtmmegmonmilkcaaGreatDoor.RU
open Go.RowKit
theorem ret_int {k : IntKind} {a b : Int} (h : a = b) : Ending.returned (.int k a) = .returned (.int k b) := by rw [h]
theorem len_any (b : Nat) (i o : Int) (w : World)
  (h2 : w.cell? ⟨b, 2, none⟩ = some (.int .u32 i)) (h3 : w.cell? ⟨b, 3, none⟩ = some (.int .u32 o)) :
  Calls Tryz.prog 104 #[.pointer (some ⟨b, 0, none⟩)] w fun e w' => e = .returned (.int .i64 ((i - o) % 4294967296)) ∧ ∃ n, w' = w.drewN n := by
 go_enter Tryz.func104, Tryz.ntmps104
 go_wp2
 go_quiet (fail)
 go_wp2
 go_ret
 exact ⟨rfl, _, rfl⟩
theorem limit_any (b : Nat) (r : Int) (w : World)
  (h0 : w.cell? ⟨b, 0, none⟩ = some (.int .i64 r)) :
  Calls Tryz.prog 130 #[.pointer (some ⟨b, 0, none⟩)] w fun e w' => e = .returned (.int .i64 (min (max r 1) 4096)) ∧ w = w' := by
 go_enter Tryz.func130, Tryz.ntmps130
 go_wp2
 all_goals go_ret
 all_goals exact ⟨ret_int (by omega), rfl⟩
theorem and_mod (c : Int) (m : Nat) (h0 : 0 ≤ c) (h1 : c < 4294967296) (k : Nat) (hk : m = 2 ^ k) (hm2 : m ≤ 4096) :
  bits .and .u32 c (IntKind.u32.wrap (IntKind.i64.wrap ((m : Int) - 1))) = (((c % m).toNat : Nat) : Int) := by
 have hm : 0 < m := by rw [hk]; exact Nat.two_pow_pos k
 have e1 : IntKind.u32.wrap (IntKind.i64.wrap ((m : Int) - 1)) = ((m - 1 : Nat) : Int) := by
  simp only [IntKind.wrap, IntKind.bits, IntKind.signed]; simp; split <;> omega
 obtain ⟨c', rfl⟩ := Int.eq_ofNat_of_zero_le h0
 rw [e1]
 have e2 := u32_and_nat c' (m - 1) (by omega) (by omega)
 rw [e2, hk, Nat.and_two_pow_sub_one_eq_mod, ← hk]
 congr 1
theorem place_any (b pb m k : Nat) (c : Int) (w : World) (h0c : 0 ≤ c) (h1c : c < 4294967296) (hk : m = 2 ^ k) (hm2 : m ≤ 4096)
  (h1 : w.cell? ⟨b, 1, none⟩ = some (.slice (some ⟨pb, 0, none⟩) m m)) :
  Calls Tryz.prog 133 #[.pointer (some ⟨b, 0, none⟩), .int .u32 c] w fun e w' => e = .returned (.pointer (some ⟨pb, (c % m).toNat, none⟩)) ∧ ∃ n, w' = w.drewN n := by
 have hm : 0 < m := by rw [hk]; exact Nat.two_pow_pos k
 have hb := and_mod c m h0c h1c k hk hm2
 have hq : (((c % m).toNat : Nat) : Int) < m := by have := Int.emod_lt_of_pos c (b := (m : Int)) (by omega); omega
 clear hk
 generalize (c % m).toNat = q at *
 go_enter Tryz.func133, Tryz.ntmps133
 go_wp2
 go_quiet (fail)
 go_wp2
 go_ret
 exact ⟨rfl, _, rfl⟩
theorem room_any (b : Nat) (r i o : Int) (l : Bool) (w : World)
  (h0 : w.cell? ⟨b, 0, none⟩ = some (.int .i64 r))
  (h2 : w.cell? ⟨b, 2, none⟩ = some (.int .u32 i)) (h3 : w.cell? ⟨b, 3, none⟩ = some (.int .u32 o)) (h4 : w.cell? ⟨b, 4, none⟩ = some (.bool l)) :
  Calls Tryz.prog 105 #[.pointer (some ⟨b, 0, none⟩)] w fun e w' => e = .returned (.int .i64 (min (max r 1) 4096 - ((i - o) % 4294967296 + if l then 1 else 0))) ∧ ∃ n, w' = w.drewN n := by
 have hb : 0 ≤ (i - o) % 4294967296 ∧ (i - o) % 4294967296 < 4294967296 := by omega
 obtain ⟨hb1, hb2⟩ := hb
 have hl1 : 1 ≤ min (max r 1) 4096 := by omega
 have hl2 : min (max r 1) 4096 ≤ 4096 := by omega
 have L := len_any b i o w h2 h3
 have K := fun n => limit_any b r (w.drewN n) (by simpa using h0)
 generalize (i - o) % 4294967296 = d at *
 generalize min (max r 1) 4096 = t at *
 go_enter Tryz.func105, Tryz.ntmps105
 cases l
 all_goals
  go_wp2_with (first
   | (go_at_call 104; refine L.mono ?_; rintro e w' ⟨rfl, n, rfl⟩)
   | (go_at_call 130; refine (K _).mono ?_; rintro e w' ⟨rfl, rfl⟩))
  go_ret
  refine ⟨ret_int (by simp), _, rfl⟩
end Go.Proofs.YtmmegmonmilkcaaGreatDoor.RU
namespace Go.Proofs.YtmmegmonmilkcaaGreatDoor.RU
open Go.RowKit
structure Fr (b pb : Nat) (w w' : World) : Prop where
 os : w'.os = w.os
 tape : w'.tape = w.tape
 output : w'.output = w.output
 size : w.heap.size ≤ w'.heap.size
 block : ∀ k, k < w.heap.size → k ≠ b → k ≠ pb → w'.heap[k]? = w.heap[k]?
theorem Fr.refl (b pb : Nat) (w : World) : Fr b pb w w := ⟨rfl, rfl, rfl, Nat.le_refl _, fun _ _ _ _ => rfl⟩
theorem Fr.trans {b pb pb' : Nat} {x y z : World} (h : Fr b pb x y) (k : Fr b pb' y z) (e : pb' = pb ∨ x.heap.size ≤ pb') : Fr b pb x z :=
 ⟨k.os.trans h.os, k.tape.trans h.tape, k.output.trans h.output, Nat.le_trans h.size k.size, fun i hi h1 h2 => by
  have := h.size
  rw [k.block i (by omega) h1 (by omega), h.block i hi h1 h2]⟩
theorem Fr.drewN {b pb : Nat} {x y : World} (h : Fr b pb x y) (n : Nat) : Fr b pb x (y.drewN n) := ⟨h.os, h.tape, h.output, h.size, h.block⟩
theorem Fr.setCell {b pb : Nat} {x y : World} (h : Fr b pb x y) {a : Addr} (ha : a.block = b ∨ a.block = pb ∨ x.heap.size ≤ a.block) (v : Value) : Fr b pb x (y.setCell a v) :=
 ⟨h.os, h.tape, h.output, by simpa using h.size, fun k hk h1 h2 => by rw [Below.heap_setCell _ _ _ _ (by omega)]; exact h.block k hk h1 h2⟩
theorem Fr.set0 {b pb : Nat} {x y : World} (h : Fr b pb x y) (k : Nat) (v : Value) : Fr b pb x (y.setCell ⟨b, k, none⟩ v) := h.setCell (Or.inl rfl) v
theorem Fr.set1 {b pb : Nat} {x y : World} (h : Fr b pb x y) (k : Nat) (v : Value) : Fr b pb x (y.setCell ⟨pb, k, none⟩ v) := h.setCell (Or.inr (Or.inl rfl)) v
structure RingSt where
 room : Int
 i : Nat
 o : Nat
 laid : Bool
 lv : Int
 xs : List Int
def one (b : Bool) : Nat := if b then 1 else 0
structure RingOk (s : RingSt) : Prop where
 hi : s.i < 4294967296
 ho : s.o < 4294967296
 hlen : (s.o + s.xs.length) % 4294967296 = s.i
 hcap : ((s.xs.length + one s.laid : Nat) : Int) ≤ min (max s.room 1) 4096
def Filled (w : World) (b pb m : Nat) (s : RingSt) (ps : List Int) : Prop :=
 (∃ k, m = 2 ^ k) ∧ m ≤ 4096 ∧ pb ≠ b ∧ w.heap[pb]? = some (.cells ⟨ps.map (.int .u64)⟩ 47 (0, 0)) ∧ ps.length = m ∧ s.xs.length + one s.laid ≤ m ∧
 (∀ j, j < s.xs.length → ps[(s.o + j) % m]? = s.xs[j]?) ∧ (s.laid = true → ps[s.i % m]? = some s.lv)
def pval (pb m : Nat) : Value := if m = 0 then .slice none 0 0 else .slice (some ⟨pb, 0, none⟩) m m
def RingAt (w : World) (b pb m : Nat) (s : RingSt) : Prop :=
 RingOk s ∧ (∃ t, w.heap[b]? = some (.cells #[.int .i64 s.room, pval pb m, .int .u32 (s.i : Int), .int .u32 (s.o : Int), .bool s.laid] t (0, 0))) ∧
 ((m = 0 ∧ pb = b ∧ s.xs = [] ∧ s.laid = false) ∨ ∃ ps, Filled w b pb m s ps)
theorem cell_of {w : World} {b : Nat} {c : Array Value} {t : TypeId} {fr : Nat × Nat} (h : w.heap[b]? = some (.cells c t fr)) (k : Nat) : w.cell? ⟨b, k, none⟩ = c[k]? := by
 simp [World.cell?, h]
theorem frozen_of {w : World} {b : Nat} {c : Array Value} {t : TypeId} (h : w.heap[b]? = some (.cells c t (0, 0))) (k : Nat) : w.frozen? ⟨b, k, none⟩ = false := by
 simp [World.frozen?, h]
theorem lt_of_heap {w : World} {b : Nat} {x : Obj} (h : w.heap[b]? = some x) : b < w.heap.size := by
 rcases Nat.lt_or_ge b w.heap.size with h' | h'
 ·exact h'
 ·rw [Array.getElem?_eq_none h'] at h; cases h
theorem heap_set {w : World} {b : Nat} {c : Array Value} {t : TypeId} {fr : Nat × Nat} (h : w.heap[b]? = some (.cells c t fr)) (k : Nat) (v : Value) :
  (w.setCell ⟨b, k, none⟩ v).heap[b]? = some (.cells (c.setIfInBounds k v) t fr) := by
 simp [World.setCell, Array.getElem?_modify, h]
theorem heap_set_ne {w : World} {k : Nat} {a : Addr} (v : Value) (h : k ≠ a.block) : (w.setCell a v).heap[k]? = w.heap[k]? := Below.heap_setCell _ _ _ _ h
theorem RingAt.drewN {w : World} {b pb m : Nat} {s : RingSt} (h : RingAt w b pb m s) (n : Nat) : RingAt (w.drewN n) b pb m s := h
theorem RingAt.lt {w : World} {b pb m : Nat} {s : RingSt} (h : RingAt w b pb m s) : b < w.heap.size ∧ pb < w.heap.size := by
 obtain ⟨_, ⟨t, ht⟩, h3⟩ := h
 have h1 := lt_of_heap ht
 refine ⟨h1, ?_⟩
 rcases h3 with ⟨_, rfl, _⟩ | ⟨ps, _, _, _, h4, _⟩
 ·exact h1
 ·exact lt_of_heap h4
theorem RingAt.keep {w w' : World} {b pb m : Nat} {s : RingSt} (h : RingAt w b pb m s) (h1 : w'.heap[b]? = w.heap[b]?) (h2 : w'.heap[pb]? = w.heap[pb]?) : RingAt w' b pb m s := by
 obtain ⟨ok, ⟨t, ht⟩, h3⟩ := h
 refine ⟨ok, ⟨t, h1.trans ht⟩, ?_⟩
 rcases h3 with h3 | ⟨ps, a, b, c, d, e⟩
 ·exact Or.inl h3
 ·exact Or.inr ⟨ps, a, b, c, h2.trans d, e⟩
theorem RingAt.below {w w' : World} {b pb m B : Nat} {s : RingSt} (h : RingAt w b pb m s) (f : Below B w w') (h1 : w.heap.size ≤ B) : RingAt w' b pb m s :=
 h.keep (f.block _ (by have := h.lt.1; omega)) (f.block _ (by have := h.lt.2; omega))
theorem pval_pos {pb m : Nat} (h : 0 < m) : pval pb m = .slice (some ⟨pb, 0, none⟩) m m := by unfold pval; rw [if_neg (by omega)]
section
variable {w : World} {b pb m : Nat} {s : RingSt}
theorem RingAt.len_eq (h : RingOk s) : ((s.i : Int) - s.o) % 4294967296 = s.xs.length := by
 obtain ⟨h1, h2, h3, h4⟩ := h
 omega
theorem ring_len (h : RingAt w b pb m s) : Calls Tryz.prog 104 #[.pointer (some ⟨b, 0, none⟩)] w fun e w' => e = .returned (.int .i64 s.xs.length) ∧ ∃ n, w' = w.drewN n := by
 obtain ⟨ok, ⟨t, ht⟩, _⟩ := h
 refine (len_any b s.i s.o w (by rw [cell_of ht]; rfl) (by rw [cell_of ht]; rfl)).mono ?_
 rintro e w' ⟨rfl, h⟩
 exact ⟨ret_int (RingAt.len_eq ok), h⟩
def RingSt.free (s : RingSt) : Int := min (max s.room 1) 4096 - ((s.xs.length + one s.laid : Nat) : Int)
theorem ring_room (h : RingAt w b pb m s) : Calls Tryz.prog 105 #[.pointer (some ⟨b, 0, none⟩)] w fun e w' => e = .returned (.int .i64 s.free) ∧ ∃ n, w' = w.drewN n := by
 obtain ⟨ok, ⟨t, ht⟩, _⟩ := h
 refine (room_any b s.room s.i s.o s.laid w (by rw [cell_of ht]; rfl) (by rw [cell_of ht]; rfl) (by rw [cell_of ht]; rfl) (by rw [cell_of ht]; rfl)).mono ?_
 rintro e w' ⟨rfl, h⟩
 refine ⟨ret_int ?_, h⟩
 rw [RingAt.len_eq ok, RingSt.free, one]
 cases s.laid <;> simp
end
end Go.Proofs.YtmmegmonmilkcaaGreatDoor.RU
namespace Go.Proofs.YtmmegmonmilkcaaGreatDoor.RU
open Go.RowKit
theorem pow_dvd {m k : Nat} (hk : m = 2 ^ k) (hm : m ≤ 4096) : m ∣ 4294967296 := by
 have : k ≤ 32 := by
  rcases Nat.lt_or_ge 32 k with h | h
  ·have := Nat.pow_le_pow_right (n := 2) (by omega) h; omega
  ·exact h
 rw [hk, show 4294967296 = 2 ^ 32 from rfl]
 exact Nat.pow_dvd_pow 2 this
theorem mod32 {m k : Nat} (hk : m = 2 ^ k) (hm : m ≤ 4096) (c : Nat) : c % 4294967296 % m = c % m := Nat.mod_mod_of_dvd c (pow_dvd hk hm)
theorem dist {m o j j' : Nat} (h1 : j < m) (h2 : j' < m) (h : (o + j) % m = (o + j') % m) : j = j' := by
 rcases Nat.lt_or_ge j j' with g | g
 ·have h3 := Nat.sub_mod_eq_zero_of_mod_eq h.symm
  rw [show o + j' - (o + j) = j' - j by omega, Nat.mod_eq_of_lt (by omega)] at h3
  omega
 ·have h3 := Nat.sub_mod_eq_zero_of_mod_eq h
  rw [show o + j - (o + j') = j - j' by omega, Nat.mod_eq_of_lt (by omega)] at h3
  omega
theorem toNat_mod (c m : Nat) : (((c : Nat) : Int) % (m : Int)).toNat = c % m := rfl
section
variable {w : World} {b pb m : Nat} {s : RingSt}
theorem ring_place (h : RingAt w b pb m s) (hm : 0 < m) (c : Nat) (hc : c < 4294967296) :
  Calls Tryz.prog 133 #[.pointer (some ⟨b, 0, none⟩), .int .u32 c] w fun e w' => e = .returned (.pointer (some ⟨pb, c % m, none⟩)) ∧ ∃ n, w' = w.drewN n := by
 obtain ⟨ok, ⟨t, ht⟩, h3⟩ := h
 rcases h3 with h3 | ⟨ps, ⟨k, hk⟩, hm2, _⟩
 ·omega
 ·have := place_any b pb m k c w (by omega) (by omega) hk hm2 (by rw [cell_of ht, pval_pos hm]; rfl)
  rw [toNat_mod] at this
  exact this
theorem RingAt.pos (h : RingAt w b pb m s) (hx : s.xs ≠ [] ∨ s.laid = true) : 0 < m := by
 obtain ⟨ok, ⟨t, ht⟩, h3⟩ := h
 rcases h3 with ⟨_, _, h1, h2⟩ | ⟨ps, ⟨k, hk⟩, hm2, _⟩
 ·rcases hx with hx | hx
  ·exact absurd h1 hx
  ·rw [h2] at hx; cases hx
 ·rw [hk]; exact Nat.two_pow_pos k
theorem RingAt.filled (h : RingAt w b pb m s) (hm : 0 < m) : ∃ ps, Filled w b pb m s ps := by
 obtain ⟨ok, ⟨t, ht⟩, h3⟩ := h
 rcases h3 with h3 | h3
 ·omega
 ·exact h3
theorem Filled.cell {ps : List Int} (h : Filled w b pb m s ps) {q : Nat} {v : Int} (e : ps[q]? = some v) : w.cell? ⟨pb, q, none⟩ = some (.int .u64 v) := by
 obtain ⟨_, _, _, hp, _⟩ := h
 rw [cell_of hp]; simp [e]
theorem ring_peek_some (h : RingAt w b pb m s) {x : Int} {r : List Int} (hx : s.xs = x :: r) :
  Calls Tryz.prog 117 #[.pointer (some ⟨b, 0, none⟩)] w fun e w' => e = .returned (.tuple #[.int .u64 x, .int .i64 0]) ∧ ∃ n, w' = w.drewN n := by
 have hm := h.pos (Or.inl (by rw [hx]; simp))
 obtain ⟨ps, hf⟩ := h.filled hm
 have hc : w.cell? ⟨pb, s.o % m, none⟩ = some (.int .u64 x) := hf.cell (by have := hf.2.2.2.2.2.2.1 0 (by rw [hx]; simp); rw [hx] at this; simpa using this)
 have L := ring_len h
 have P := fun n => ring_place (h.drewN n) hm s.o h.1.ho
 have hl : ((s.xs.length : Int) == 0) = false := by rw [hx]; simp; omega
 have h3 : w.cell? ⟨b, 3, none⟩ = some (.int .u32 s.o) := by obtain ⟨_, ⟨t, ht⟩, _⟩ := h; rw [cell_of ht]; rfl
 clear hx hm hf h
 generalize s.o % m = q at *
 generalize (s.o : Int) = o at *
 generalize (s.xs.length : Int) = l at *
 go_enter Tryz.func117, Tryz.ntmps117
 go_wp2_with (first
   | (go_at_call 104; refine L.mono ?_; rintro e w' ⟨rfl, n, rfl⟩)
   | (go_at_call 133; refine (P _).mono ?_; rintro e w' ⟨rfl, n2, rfl⟩))
 go_ret2
 exact ⟨rfl, _, rfl⟩
theorem ring_peek_none (h : RingAt w b pb m s) (hx : s.xs = []) :
  Calls Tryz.prog 117 #[.pointer (some ⟨b, 0, none⟩)] w fun e w' => e = .returned (.tuple #[.int .u64 0, .int .i64 8]) ∧ ∃ n, w' = w.drewN n := by
 have L := ring_len h
 rw [hx] at L
 clear hx h
 go_enter Tryz.func117, Tryz.ntmps117
 go_wp2_with (first
   | (go_at_call 104; refine L.mono ?_; rintro e w' ⟨rfl, n, rfl⟩))
 go_ret2
 exact ⟨rfl, _, rfl⟩
theorem ring_publish_none (h : RingAt w b pb m s) (hx : s.laid = false) :
  Calls Tryz.prog 110 #[.pointer (some ⟨b, 0, none⟩)] w fun e w' => e = .returned (.int .i64 13) ∧ w = w' := by
 have h4 : w.cell? ⟨b, 4, none⟩ = some (.bool false) := by obtain ⟨_, ⟨t, ht⟩, _⟩ := h; rw [cell_of ht, hx]; rfl
 clear hx h
 go_enter Tryz.func110, Tryz.ntmps110
 go_wp2
 go_ret
 exact ⟨rfl, rfl⟩
def RingSt.published (s : RingSt) : RingSt := { s with i := (s.i + 1) % 4294967296, laid := false, xs := s.xs ++ [s.lv] }
theorem at_published (h : RingAt w b pb m s) (hx : s.laid = true) : RingAt ((w.setCell ⟨b, 4, none⟩ (.bool false)).setCell ⟨b, 2, none⟩ (.int .u32 (((s.i : Int) + 1) % 4294967296))) b pb m s.published := by
 have hm := h.pos (Or.inr hx)
 obtain ⟨ps, ⟨k, hk⟩, hm2, hne, hp, hpl, hcap, hxs, hlv⟩ := h.filled hm
 obtain ⟨ok, ⟨t, ht⟩, h3⟩ := h
 obtain ⟨o1, o2, o3, o4⟩ := ok
 simp only [one, hx, if_true] at o4 hcap
 refine ⟨⟨?_, o2, ?_, ?_⟩, ⟨t, ?_⟩, Or.inr ⟨ps, ⟨k, hk⟩, hm2, hne, ?_, hpl, ?_, ?_, ?_⟩⟩
 ·simp [RingSt.published]; omega
 ·simp [RingSt.published]; omega
 ·simp [RingSt.published, one]; omega
 ·rw [heap_set (heap_set ht 4 _) 2 _]
  simp [RingSt.published]
 ·rw [heap_set_ne _ hne, heap_set_ne _ hne, hp]
 ·simp [RingSt.published, one]; omega
 ·intro j hj
  simp only [RingSt.published, List.length_append, List.length_singleton] at hj ⊢
  rcases Nat.lt_or_ge j s.xs.length with g | g
  ·rw [List.getElem?_append_left g]; exact hxs j g
  ·have e : j = s.xs.length := by omega
   subst e
   rw [← mod32 hk hm2, o3, hlv hx]; simp
 ·intro c; simp [RingSt.published] at c
theorem ring_publish_some (h : RingAt w b pb m s) (hx : s.laid = true) :
  Calls Tryz.prog 110 #[.pointer (some ⟨b, 0, none⟩)] w fun e w' => e = .returned (.int .i64 0) ∧ RingAt w' b pb m s.published ∧ Fr b pb w w' := by
 have hA := at_published h hx
 obtain ⟨_, ⟨t, ht⟩, _⟩ := h
 have h4 : w.cell? ⟨b, 4, none⟩ = some (.bool true) := by rw [cell_of ht, hx]; rfl
 have h2 : w.cell? ⟨b, 2, none⟩ = some (.int .u32 s.i) := by rw [cell_of ht]; rfl
 have f2 := frozen_of ht 2
 have f4 := frozen_of ht 4
 clear ht hx
 go_enter Tryz.func110, Tryz.ntmps110
 go_wp2
 go_ret
 exact ⟨rfl, hA, ((Fr.refl _ _ _).set0 _ _).set0 _ _⟩
theorem ring_free_none (h : RingAt w b pb m s) (hx : s.xs = []) :
  Calls Tryz.prog 142 #[.pointer (some ⟨b, 0, none⟩)] w fun e w' => e = .returned (.int .i64 8) ∧ ∃ n, w' = w.drewN n := by
 have L := ring_len h
 rw [hx] at L
 clear hx h
 go_enter Tryz.func142, Tryz.ntmps142
 go_wp2_with (first
   | (go_at_call 104; refine L.mono ?_; rintro e w' ⟨rfl, n, rfl⟩))
 go_ret
 exact ⟨rfl, _, rfl⟩
def RingSt.freed (s : RingSt) : RingSt := { s with o := (s.o + 1) % 4294967296, xs := s.xs.tail }
theorem at_freed (h : RingAt w b pb m s) {x : Int} {r : List Int} (hx : s.xs = x :: r) :
  RingAt ((w.setCell ⟨pb, s.o % m, none⟩ (.int .u64 0)).setCell ⟨b, 3, none⟩ (.int .u32 (((s.o : Int) + 1) % 4294967296))) b pb m s.freed := by
 have hm := h.pos (Or.inl (by rw [hx]; simp))
 obtain ⟨ps, ⟨k, hk⟩, hm2, hne, hp, hpl, hcap, hxs, hlv⟩ := h.filled hm
 obtain ⟨ok, ⟨t, ht⟩, h3⟩ := h
 obtain ⟨o1, o2, o3, o4⟩ := ok
 rw [hx] at o3 o4 hcap hxs
 simp only [List.length_cons] at o3 o4 hcap hxs
 refine ⟨⟨o1, ?_, ?_, ?_⟩, ⟨t, ?_⟩, Or.inr ⟨ps.set (s.o % m) 0, ⟨k, hk⟩, hm2, hne, ?_, by simpa using hpl, ?_, ?_, ?_⟩⟩
 ·simp [RingSt.freed]; omega
 ·simp [RingSt.freed, hx]; omega
 ·simp [RingSt.freed, hx]; omega
 ·rw [heap_set (c := #[.int .i64 s.room, pval pb m, .int .u32 (s.i : Int), .int .u32 (s.o : Int), .bool s.laid]) (by rw [heap_set_ne _ (by simpa using hne.symm)]; exact ht)]
  simp [RingSt.freed]
 ·rw [heap_set_ne _ hne, heap_set hp]
  simp [List.map_set]
 ·simp [RingSt.freed, hx]; omega
 ·intro j hj
  simp only [RingSt.freed, hx, List.tail_cons] at hj ⊢
  have e : ((s.o + 1) % 4294967296 + j) % m = (s.o + (j + 1)) % m := by
   rw [Nat.add_mod, mod32 hk hm2, ← Nat.add_mod]; congr 1; omega
  have e2 := hxs (j + 1) (by omega)
  rw [e, List.getElem?_set_ne, e2]
  ·simp
  ·intro c
   have := dist (m := m) (o := s.o) (j := 0) (j' := j + 1) hm (by omega) (by simpa using c)
   omega
 ·intro c
  have c' : s.laid = true := c
  simp only [one, c', if_true] at hcap
  rw [List.getElem?_set_ne]
  ·exact hlv c'
  ·intro d
   have e : s.i % m = (s.o + (r.length + 1)) % m := by rw [← o3, mod32 hk hm2]
   have d' : s.o % m = s.i % m := d
   rw [e] at d'
   have := dist (m := m) (o := s.o) (j := 0) (j' := r.length + 1) hm (by omega) (by simpa using d')
   omega
theorem ring_free_some (h : RingAt w b pb m s) {x : Int} {r : List Int} (hx : s.xs = x :: r) :
  Calls Tryz.prog 142 #[.pointer (some ⟨b, 0, none⟩)] w fun e w' => e = .returned (.int .i64 0) ∧ RingAt w' b pb m s.freed ∧ Fr b pb w w' := by
 have hA := fun n => at_freed (h.drewN n) hx
 have hm := h.pos (Or.inl (by rw [hx]; simp))
 obtain ⟨ps, hf⟩ := h.filled hm
 have hfr : w.frozen? ⟨pb, s.o % m, none⟩ = false := frozen_of hf.2.2.2.1 _
 have hc : w.cell? ⟨pb, s.o % m, none⟩ = some (.int .u64 x) := hf.cell (by have := hf.2.2.2.2.2.2.1 0 (by rw [hx]; simp); rw [hx] at this; simpa using this)
 have L := ring_len h
 have P := fun n => ring_place (h.drewN n) hm s.o h.1.ho
 have hl : ((s.xs.length : Int) == 0) = false := by rw [hx]; simp; omega
 obtain ⟨_, ⟨t, ht⟩, _⟩ := h
 have h3 : w.cell? ⟨b, 3, none⟩ = some (.int .u32 s.o) := by rw [cell_of ht]; rfl
 have f3 := frozen_of ht 3
 have hne := hf.2.2.1
 clear hm hf ht hx
 have hl' : Hid (((s.xs.length : Int) == 0) = false) := hl
 clear hl
 obtain ⟨l, hl2⟩ : ∃ l : Int, l = s.xs.length := ⟨_, rfl⟩
 rw [← hl2] at L hl'
 have hl3 : (l == 0) = false := hl'
 clear hl2 hl'
 go_enter Tryz.func142, Tryz.ntmps142
 go_wp2_with (first
   | (go_at_call 104; refine L.mono ?_; rintro e w' ⟨rfl, n, rfl⟩)
   | (go_at_call 133; refine (P _).mono ?_; rintro e w' ⟨rfl, n2, rfl⟩))
 go_ret
 exact ⟨rfl, hA _, ((Fr.refl _ _ _).drewN _).set1 _ _ |>.set0 _ _⟩
end
end Go.Proofs.YtmmegmonmilkcaaGreatDoor.RU
namespace Go.Proofs.YtmmegmonmilkcaaGreatDoor.RU
open Go.RowKit
theorem Tryz.info47 : (Tryz.prog.info? 47).map (fun i => (i.zero, i.size, i.bytes)) = some (some (.int .u64 0), 1, 8) := by kernel_rfl
def Ints (w : World) (B : Nat) (v : Value) (l : List Int) : Prop := w.ownsRow B 47 1 v l.length (l.map (Value.int .u64))
theorem Ints.drewN {w : World} {B : Nat} {v : Value} {l : List Int} (h : Ints w B v l) (n : Nat) : Ints (w.drewN n) B v l := h
theorem take_snoc' (l : List Int) (k : Nat) (h : k < l.length) : l.take (k + 1) = l.take k ++ [l.getD k 0] := by
 rw [List.take_succ_eq_append_getElem h]; simp [h]
theorem Ints.snoc {w : World} {B : Nat} {v : Value} {l : List Int} {k : Nat} (hk : k < l.length)
  (h : w.ownsRow B 47 1 v (min k l.length + 1) (List.take k (l.map (Value.int .u64)) ++ [.int .u64 (l.getD k 0)])) : Ints w B v (l.take (k + 1)) := by
 unfold Ints
 rw [take_snoc' l k hk]
 simpa using h
section
variable {w : World} {b pb m : Nat} {s : RingSt}
set_option maxHeartbeats 800000 in
theorem ring_all (h : RingAt w b pb m s) :
  Calls Tryz.prog 147 #[.pointer (some ⟨b, 0, none⟩)] w fun e w' => ∃ v, e = .returned v ∧ Ints w' w.heap.size v s.xs ∧ Below w.heap.size w w' := by
 obtain ⟨i0, hi, hz0, hz1, hz2⟩ := info_parts Tryz.info47
 have L := ring_len h
 have hlen : s.xs.length ≤ 4096 := by have := h.1.hcap; omega
 have hb := h.lt
 obtain ⟨B, hB⟩ : ∃ B, B = w.heap.size := ⟨_, rfl⟩
 rw [← hB]
 obtain ⟨n, hn⟩ : ∃ n : Nat, n = s.xs.length := ⟨_, rfl⟩
 rw [← hn] at L
 have HB : Hid (B = w.heap.size) := hB
 have HN : Hid (n = s.xs.length) := hn
 have hn1 : n ≤ 4096 := by omega
 clear hB hn hlen
 go_enter Tryz.func147, Tryz.ntmps147
 go_wp2_with (go_at_call 104; refine L.mono ?_; rintro e w' ⟨rfl, nq, rfl⟩)
 go_loopw [3, 7] (fun v i wr => ∃ k : Nat, k ≤ n ∧ i = .int .i64 k ∧ Ints wr B v (s.xs.take k) ∧ Below B w wr) (fun _ i _ => n - (intOf i).toNat)
 case atStart => exact ⟨0, Nat.zero_le _, rfl, World.ownsRow_nil _ _ _ _, below_drewN (Below.refl _ _) _⟩
 case round =>
  obtain ⟨k, hk, rfl, hown, hbel⟩ := hrel
  by_cases hlt : k < n
  ·have hl : k < s.xs.length := by have := HN.out; omega
   have hR := h.below hbel (by have := HB.out; omega)
   have hm := h.pos (Or.inl (by intro c; rw [c] at hl; simp at hl))
   obtain ⟨ps, hf⟩ := hR.filled hm
   have hc : wr.cell? ⟨pb, (s.o + k) % m, none⟩ = some (.int .u64 (s.xs.getD k 0)) := hf.cell (by rw [hf.2.2.2.2.2.2.1 k hl]; simp [hl])
   have P : ∀ n, Calls Tryz.prog 133 #[.pointer (some ⟨b, 0, none⟩), .int .u32 (((s.o : Int) + k) % 4294967296)] (wr.drewN n) fun e w' => e = .returned (.pointer (some ⟨pb, (s.o + k) % m, none⟩)) ∧ ∃ n', w' = (wr.drewN n).drewN n' := fun n => by
    have := ring_place (hR.drewN n) hm ((s.o + k) % 4294967296) (by omega)
    obtain ⟨⟨kk, hkk⟩, hm2, _⟩ := hf
    rw [mod32 hkk hm2] at this
    have e : (((s.o + k) % 4294967296 : Nat) : Int) = ((s.o : Int) + k) % 4294967296 := by omega
    rw [e] at this
    exact this
   have P0 : Calls Tryz.prog 133 #[.pointer (some ⟨b, 0, none⟩), .int .u32 (((s.o : Int) + k) % 4294967296)] wr fun e w' => e = .returned (.pointer (some ⟨pb, (s.o + k) % m, none⟩)) ∧ ∃ n', w' = wr.drewN n' := P 0
   have h3 : wr.cell? ⟨b, 3, none⟩ = some (.int .u32 s.o) := by obtain ⟨_, ⟨t, ht⟩, _⟩ := hR; rw [cell_of ht]; rfl
   have hsz : B ≤ wr.heap.size := by have := hbel.size; have := HB.out; omega
   have hkl : (s.xs.take k).length = k := by simp; omega
   have HKL : Hid ((s.xs.take k).length = k) := hkl
   clear hkl hf hm hR P
   obtain ⟨x, hx⟩ : ∃ x, x = s.xs.getD k 0 := ⟨_, rfl⟩
   rw [← hx] at hc
   have HX : Hid (x = s.xs.getD k 0) := hx
   clear hx
   go_wp2_with (first
    | (go_at_call 133; refine P0.mono ?_; rintro e w' ⟨rfl, n2, rfl⟩)
    | (at_builtin; refine wpList_append_own _ rfl _ _ 77 rfl B 47 i0 (.int .u64 0) 1 8 Tryz.underlying77 hi hz0 hz1 hz2 rfl (by decide) _ _ _ rfl ((hown.drewN _).alloc _) ⟨wr.heap.size, 0, none⟩ 1 1 [.int .u64 x] rfl rfl ?c1 ?c2 ?c3 ?c4 ?c5 ?_))
   case c1 =>
    intro j u hj
    match j, hj with
    | 0, hj => simp at hj; subst hj; exact (World.cell?_alloc_at _ _ _ _ rfl).trans rfl
   case c2 => intro u hu; simp at hu; subst hu; rfl
   case c3 => have := HKL.out; unfold maxLen; omega
   case c4 => have := HKL.out; omega
   case c5 => simp; omega
   ·intro v' w1 hown' hgrow _
    have hown2 : Ints w1 B v' (s.xs.take (k + 1)) := by
     rw [HX.out] at hown'
     exact Ints.snoc hl hown'
    have hbel2 : Below B w w1 := Below.grown ((below_drewN hbel n2).alloc (by simpa using hsz) _) hgrow (by simp; omega) (fun q hq => (hown.lt q hq).1)
    clear hown' hgrow hown hbel hc P0 h3
    go_wp2
    go_roundw
    case rel => exact ⟨k + 1, by omega, by go_num, hown2, hbel2⟩
    case measure => simp [intOf]; omega
  ·go_wp2
   go_ret
   exact ⟨_, rfl, by rw [List.take_of_length_le (by have := HN.out; omega)] at hown; exact hown, hbel⟩
end
end Go.Proofs.YtmmegmonmilkcaaGreatDoor.RU
namespace Go.Proofs.YtmmegmonmilkcaaGreatDoor.RU
open Go.RowKit
def Src (w : World) (B : Nat) (a : Option Addr) (l : List Int) : Prop :=
 ∀ j, j < l.length → ∃ g, a = some ⟨g, 0, none⟩ ∧ B ≤ g ∧ g < w.heap.size ∧ w.cell? ⟨g, j, none⟩ = some (.int .u64 (l.getD j 0))
theorem ints_form {w : World} {B : Nat} {v : Value} {l : List Int} (h : Ints w B v l) : ∃ a cap, v = .slice a l.length cap ∧ Src w B a l := by
 obtain ⟨h1, h2⟩ := h
 rcases h2 with ⟨rfl, h2⟩ | ⟨g, cap, cur, rfl, hg, hh, hc1, hc2, hc3, hc4⟩
 ·refine ⟨none, 0, by rw [h2], fun j hj => by omega⟩
 ·refine ⟨_, cap, rfl, fun j hj => ⟨g, rfl, hg, lt_of_heap hh, ?_⟩⟩
  rw [cell_of hh]
  have : cur[j]? = (List.take (l.length * 1) cur.toList)[j]? := by rw [List.getElem?_take_of_lt (by omega)]; simp
  rw [this, hc4]
  simp [hj]
theorem Src.keep {w w' : World} {B : Nat} {a : Option Addr} {l : List Int} (h : Src w B a l) (hs : w.heap.size ≤ w'.heap.size) (hk : ∀ g, B ≤ g → g < w.heap.size → w'.heap[g]? = w.heap[g]?) : Src w' B a l := fun j hj => by
 obtain ⟨g, h1, h2, h3, h4⟩ := h j hj
 exact ⟨g, h1, h2, by omega, by rw [World.cell?_of_block (hk g h2 h3)]; exact h4⟩
section
variable {w : World} {b pb m : Nat} {s : RingSt}
theorem RingAt.cell1 (h : RingAt w b pb m s) : ∃ a0, w.cell? ⟨b, 1, none⟩ = some (.slice a0 m m) := by
 obtain ⟨_, ⟨t, ht⟩, _⟩ := h
 rcases Nat.eq_zero_or_pos m with rfl | hm
 ·exact ⟨none, by rw [cell_of ht]; rfl⟩
 ·exact ⟨_, by rw [cell_of ht, pval_pos hm]; rfl⟩
theorem widen_no (h : RingAt w b pb m s) (hl : s.xs.length < m) :
  Calls Tryz.prog 132 #[.pointer (some ⟨b, 0, none⟩)] w fun e w' => e = .returned (.tuple #[]) ∧ ∃ n, w' = w.drewN n := by
 obtain ⟨a0, h1⟩ := h.cell1
 have L := fun n => ring_len (h.drewN n)
 obtain ⟨n, hn⟩ : ∃ n : Nat, n = s.xs.length := ⟨_, rfl⟩
 rw [← hn] at L hl
 clear hn h
 go_enter Tryz.func132, Tryz.ntmps132
 go_wp2
 go_quiet ((go_at_call 104; exact Calls.quiet_of (L _)))
 go_wp2
 exact bodyPost_ret (results_none rfl _ _ _) rfl ⟨rfl, _, rfl⟩
def Filling (w0 : World) (b pb nb M : Nat) (t : TypeId) (s : RingSt) (a : Option Addr) (k : Nat) (wr : World) : Prop :=
 wr.heap[b]? = some (.cells #[.int .i64 s.room, .slice (some ⟨nb, 0, none⟩) M M, .int .u32 (s.i : Int), .int .u32 (s.o : Int), .bool false] t (0, 0)) ∧
 (∃ qs : List Int, wr.heap[nb]? = some (.cells ⟨qs.map (.int .u64)⟩ 47 (0, 0)) ∧ qs.length = M ∧ ∀ j, j < k → qs[(s.o + j) % M]? = s.xs[j]?) ∧
 Fr b pb w0 wr ∧ Src wr w0.heap.size a s.xs
theorem Filling.drewN {w0 wr : World} {b pb nb M : Nat} {t : TypeId} {s : RingSt} {a : Option Addr} {k : Nat} (h : Filling w0 b pb nb M t s a k wr) (n : Nat) : Filling w0 b pb nb M t s a k (wr.drewN n) := ⟨h.1, h.2.1, h.2.2.1.drewN n, h.2.2.2⟩
theorem made_zeros (n : Nat) : (madeCells #[Value.int .u64 0] n).toList = (List.replicate n (0 : Int)).map (.int .u64) := by
 unfold madeCells
 apply List.ext_getElem <;> simp [Nat.mod_one]
theorem fill_start (h : RingAt w b pb m s) (hla : s.laid = false) {w1 w2 : World} (hbel : Below w.heap.size w w1) {a : Option Addr} (hS : Src w1 w.heap.size a s.xs) {M : Nat}
  (hown : w2.ownsRow w.heap.size 47 1 (.slice (some ⟨w1.heap.size, 0, none⟩) M M) M (madeCells #[Value.int .u64 0] M).toList) (hg : w1.grownBy w2 none) :
  ∃ t, Filling w b pb w1.heap.size M t s a 0 (w2.setCell ⟨b, 1, none⟩ (.slice (some ⟨w1.heap.size, 0, none⟩) M M)) := by
 obtain ⟨ok, ⟨t, ht⟩, h3⟩ := h
 have hb := lt_of_heap ht
 have s1 := hbel.size
 have s2 := hg.size
 have e1 : w1.heap[b]? = w.heap[b]? := hbel.block b hb
 have e2 : w2.heap[b]? = w1.heap[b]? := hg.block b (by omega) (by simp)
 refine ⟨t, ?_, ?_, ?_, ?_⟩
 ·rw [heap_set (c := #[.int .i64 s.room, pval pb m, .int .u32 (s.i : Int), .int .u32 (s.o : Int), .bool s.laid]) (t := t) (fr := (0, 0)) (by rw [e2, e1]; exact ht)]
  simp [hla]
 ·obtain ⟨_, h2⟩ := hown
  rcases h2 with ⟨h2, _⟩ | ⟨g, cap, cur, h4, hg', hh, hc1, hc2, hc3, hc4⟩
  ·cases h2
  ·simp only [Value.slice.injEq, Option.some.injEq, Addr.mk.injEq, and_true, true_and] at h4
   obtain ⟨rfl, rfl⟩ := h4
   refine ⟨List.replicate M 0, ?_, by simp, fun j hj => absurd hj (Nat.not_lt_zero j)⟩
   rw [heap_set_ne _ (by show w1.heap.size ≠ b; omega), hh]
   rw [List.take_of_length_le (by simp [hc3]), made_zeros] at hc4
   have : cur = ⟨List.map (Value.int IntKind.u64) (List.replicate M 0)⟩ := by
    apply Array.toList_inj.1; rw [hc4]
   rw [this]
 ·refine Fr.set0 ⟨hg.os.trans hbel.os, hg.tape.trans hbel.tape, hg.output.trans hbel.output, by omega, fun k hk _ _ => ?_⟩ _ _
  rw [hg.block k (by omega) (by simp), hbel.block k hk]
 ·refine hS.keep (by simp; omega) fun g g1 g2 => ?_
  rw [heap_set_ne _ (by show g ≠ b; omega), hg.block g (by omega) (by simp)]
theorem fill_step {w0 wr : World} {nb M : Nat} {t : TypeId} {a : Option Addr} {k : Nat} (h : Filling w0 b pb nb M t s a k wr) (hk : k < s.xs.length) (hM : s.xs.length < M) (hnb : w0.heap.size ≤ nb)
  (hb : b < w0.heap.size) (hg : ∀ g, a = some ⟨g, 0, none⟩ → g ≠ nb) :
  Filling w0 b pb nb M t s a (k + 1) (wr.setCell ⟨nb, (s.o + k) % M, none⟩ (.int .u64 (s.xs.getD k 0))) := by
 obtain ⟨h1, ⟨qs, h2, h3, h4⟩, h5, h6⟩ := h
 refine ⟨?_, ⟨qs.set ((s.o + k) % M) (s.xs.getD k 0), ?_, by simpa using h3, ?_⟩, ?_, ?_⟩
 ·rw [heap_set_ne _ (by show b ≠ nb; omega)]; exact h1
 ·rw [heap_set h2]; simp [List.map_set]
 ·intro j hj
  rcases Nat.lt_or_ge j k with c | c
  ·rw [List.getElem?_set_ne]
   ·exact h4 j c
   ·intro d
    have := dist (m := M) (o := s.o) (j := k) (j' := j) (by omega) (by omega) d
    omega
  ·obtain rfl : j = k := by omega
   rw [List.getElem?_set_self (by rw [h3]; exact Nat.mod_lt _ (by omega))]
   simp [hk]
 ·exact h5.setCell (Or.inr (Or.inr hnb)) _
 ·intro j hj
  obtain ⟨g, g1, g2, g3, g4⟩ := h6 j hj
  refine ⟨g, g1, g2, by simpa using g3, ?_⟩
  rw [World.cell?_of_block (heap_set_ne _ (by exact hg g g1))]
  exact g4
theorem fill_end {w0 wr : World} {nb M : Nat} {t : TypeId} {a : Option Addr} (h : Filling w0 b pb nb M t s a s.xs.length wr) (ok : RingOk s) (hla : s.laid = false) (hM : s.xs.length < M) (hM1 : ∃ k, M = 2 ^ k) (hM2 : M ≤ 4096) (hnb : b < nb) :
  RingAt wr b nb M s := by
 obtain ⟨h1, ⟨qs, h2, h3, h4⟩, h5, h6⟩ := h
 refine ⟨ok, ⟨t, ?_⟩, Or.inr ⟨qs, hM1, hM2, by omega, h2, h3, by rw [hla]; simp [one]; omega, h4, ?_⟩⟩
 ·rw [pval_pos (by omega), hla]; exact h1
 ·intro c; rw [hla] at c; cases c
theorem Filling.src {w0 wr : World} {nb M : Nat} {t : TypeId} {a : Option Addr} {k : Nat} (h : Filling w0 b pb nb M t s a k wr) : Src wr w0.heap.size a s.xs := h.2.2.2
set_option maxRecDepth 100000 in
set_option maxHeartbeats 1000000 in
theorem widen_yes (h : RingAt w b pb m s) (hl : m ≤ s.xs.length) (hla : s.laid = false) (hlt : (s.xs.length : Int) < min (max s.room 1) 4096) :
  Calls Tryz.prog 132 #[.pointer (some ⟨b, 0, none⟩)] w fun e w' => e = .returned (.tuple #[]) ∧ ∃ nb M, RingAt w' b nb M s ∧ s.xs.length < M ∧ w.heap.size ≤ nb ∧ Fr b pb w w' := by
 obtain ⟨i0, hi, hz0, hz1, hz2⟩ := info_parts Tryz.info47
 obtain ⟨a0, h1⟩ := h.cell1
 have hbb := h.lt
 have L := fun n => ring_len (h.drewN n)
 have A := fun n => ring_all (h.drewN n)
 have f1 : w.frozen? ⟨b, 1, none⟩ = false := by obtain ⟨_, ⟨t, ht⟩, _⟩ := h; exact frozen_of ht 1
 have hmn : m = s.xs.length := by
  rcases h.2.2 with ⟨e, _, e2, _⟩ | ⟨ps, _, _, _, _, _, e, _⟩
  ·rw [e2] at hl ⊢; simp; omega
  ·omega
 obtain ⟨n, hn⟩ : ∃ n : Nat, n = s.xs.length := ⟨_, rfl⟩
 rw [← hn] at L
 have HN : Hid (n = s.xs.length) := hn
 have hln : ¬ (n : Int) < m := by omega
 have hm3 : m < 4096 := by omega
 obtain ⟨B, hB⟩ : ∃ B, B = w.heap.size := ⟨_, rfl⟩
 simp only [World.heap_drewN] at A
 rw [← hB] at A ⊢
 have HB : Hid (B = w.heap.size) := hB
 have HM : Hid (m = n) := by rw [hn]; exact hmn
 clear hl hn hlt hB hmn
 have HH : Hid (RingAt w b pb m s) := h
 clear h
 rcases Nat.eq_zero_or_pos m with hm | hm
 ·subst hm
  have hn0 : n = 0 := HM.out.symm
  subst hn0
  go_enter Tryz.func132, Tryz.ntmps132
  go_wp2
  go_quiet ((go_at_call 104; exact Calls.quiet_of (L _)))
  go_wp2_with fail
  go_at_call 147
  refine (A _).mono ?_
  rintro e w1 ⟨v, rfl, hI, hbel⟩
  obtain ⟨a, cap, rfl, hS⟩ := ints_form hI
  rw [← HN.out]
  have h1' : w1.cell? ⟨b, 1, none⟩ = some (.slice a0 0 0) := (hbel.cell (by have := HB.out; show b < B; omega)).trans h1
  have f1' : w1.frozen? ⟨b, 1, none⟩ = false := (hbel.frozen (by have := HB.out; show b < B; omega)).trans f1
  have hsz : B ≤ w1.heap.size := by have h7 : w.heap.size ≤ w1.heap.size := hbel.size; have := HB.out; omega
  clear hI
  go_wp2_with (at_make; refine wpList_make_full _ rfl _ _ 77 rfl B 47 i0 (.int .u64 0) 1 Tryz.underlying77 hi hz0 hz1 _ _ _ _ 1 rfl rfl ?d1 ?d2 ?d3 ?d4 ?d5 ?_)
  case d1 => rfl
  case d2 => rfl
  case d3 => rw [hz2]; omega
  case d4 => unfold maxLen; omega
  case d5 => exact hsz
  ·intro w2 hown2 hg2
   have h1'' : w2.cell? ⟨b, 1, none⟩ = some (.slice a0 0 0) := (World.cell?_of_block (hg2.block b (by have := HB.out; omega) (by simp))).trans h1'
   have f1'' : w2.frozen? ⟨b, 1, none⟩ = false := (World.frozen?_of_block (hg2.block b (by have := HB.out; omega) (by simp))).trans f1'
   have hst := fill_start HH.out hla (w1 := w1) (w2 := w2) (by rw [← HB.out]; exact ⟨hbel.os, hbel.tape, hbel.output, hbel.size, hbel.block⟩) (by rw [← HB.out]; exact hS) (by rw [← HB.out]; exact hown2) hg2
   obtain ⟨t, hst⟩ := hst
   obtain ⟨nb, hnb⟩ : ∃ nb, nb = w1.heap.size := ⟨_, rfl⟩
   rw [← hnb] at hst ⊢
   have hnb1 : w.heap.size ≤ nb := by have := HB.out; omega
   clear hown2 hg2 hS hbel h1' f1' hnb A L
   go_wp2
   refine wp_loop_rounds 1 ?_
   rw [rounds_succ]
   go_wp2
   have h0 : s.xs.length = 0 := HN.out.symm
   refine bodyPost_end (results_none rfl _ _ _) rfl ⟨rfl, nb, 1, ?_, by omega, by have := HB.out; omega, hst.2.2.1⟩
   exact fill_end (t := t) (a := a) (w0 := w) (pb := pb) (by rw [h0]; exact hst) HH.out.1 hla (by omega) ⟨0, rfl⟩ (by omega) (by omega)
 ·have hm1 : (1 : Int) < 2 * (m : Int) := by omega
  go_enter Tryz.func132, Tryz.ntmps132
  go_wp2
  go_quiet ((go_at_call 104; exact Calls.quiet_of (L _)))
  go_wp2_with fail
  go_at_call 147
  refine (A _).mono ?_
  rintro e w1 ⟨v, rfl, hI, hbel⟩
  obtain ⟨a, cap, rfl, hS⟩ := ints_form hI
  have h1' : w1.cell? ⟨b, 1, none⟩ = some (.slice a0 m m) := (hbel.cell (by have := HB.out; show b < B; omega)).trans h1
  have f1' : w1.frozen? ⟨b, 1, none⟩ = false := (hbel.frozen (by have := HB.out; show b < B; omega)).trans f1
  have hsz : B ≤ w1.heap.size := by have h7 : w.heap.size ≤ w1.heap.size := hbel.size; have := HB.out; omega
  clear hI
  go_wp2_with (at_make; refine wpList_make_full _ rfl _ _ 77 rfl B 47 i0 (.int .u64 0) 1 Tryz.underlying77 hi hz0 hz1 _ _ _ _ (2 * m) rfl rfl ?d1 ?d2 ?d3 ?d4 ?d5 ?_)
  case d1 => omega
  case d2 => omega
  case d3 => rw [hz2]; omega
  case d4 => unfold maxLen; omega
  case d5 => exact hsz
  ·intro w2 hown2 hg2
   have h1'' : w2.cell? ⟨b, 1, none⟩ = some (.slice a0 m m) := (World.cell?_of_block (hg2.block b (by have := HB.out; omega) (by simp))).trans h1'
   have f1'' : w2.frozen? ⟨b, 1, none⟩ = false := (World.frozen?_of_block (hg2.block b (by have := HB.out; omega) (by simp))).trans f1'
   have hst := fill_start HH.out hla (w1 := w1) (w2 := w2) (by rw [← HB.out]; exact ⟨hbel.os, hbel.tape, hbel.output, hbel.size, hbel.block⟩) (by rw [← HB.out]; exact hS) (by rw [← HB.out]; exact hown2) hg2
   obtain ⟨t, hst⟩ := hst
   have hga : ∀ g, a = some ⟨g, 0, none⟩ → g ≠ w1.heap.size := fun g hg => by
    obtain ⟨g', e1, _, e3, _⟩ := hS 0 (by have := HN.out; have := HM.out; omega)
    rw [hg] at e1; simp at e1; omega
   obtain ⟨nb, hnb⟩ : ∃ nb, nb = w1.heap.size := ⟨_, rfl⟩
   rw [← hnb] at hst hga ⊢
   have hnb1 : w.heap.size ≤ nb := by have := HB.out; omega
   clear hown2 hg2 hS hbel h1' f1' hnb A L
   go_wp2
   have hM1 : (∃ k, 2 * m = 2 ^ k) ∧ 2 * m ≤ 4096 := by
    obtain ⟨ps, ⟨k, hk⟩, _⟩ := HH.out.filled hm
    have h12 : k < 12 := by
     rcases Nat.lt_or_ge k 12 with c | c
     ·exact c
     ·have := Nat.pow_le_pow_right (n := 2) (by omega) c; omega
    have := Nat.pow_le_pow_right (n := 2) (by omega) (show k + 1 ≤ 12 from h12)
    exact ⟨⟨k + 1, by rw [hk]; omega⟩, by omega⟩
   have HM1 : Hid ((∃ k, 2 * m = 2 ^ k) ∧ 2 * m ≤ 4096) := hM1
   have HGA : Hid (∀ g, a = some ⟨g, 0, none⟩ → g ≠ nb) := hga
   clear hM1 hga
   obtain ⟨l, hl⟩ : ∃ l : Nat, l = s.xs.length := ⟨_, rfl⟩
   rw [← hl]
   have HL : Hid (l = s.xs.length) := hl
   have hl4 : l ≤ 4096 := by have := HN.out; have := HM.out; omega
   clear hl
   obtain ⟨M, hMM⟩ : ∃ M, M = 2 * m := ⟨_, rfl⟩
   have HMM : Hid (M = 2 * m) := hMM
   rw [← hMM] at hst HM1 ⊢
   clear hMM
   go_loopw [28] (fun i wr => ∃ k : Nat, k ≤ l ∧ i = .int .i64 k ∧ Filling w b pb nb M t s a k wr) (fun i _ => l - (intOf i).toNat)
   case atStart => exact ⟨0, Nat.zero_le _, rfl, hst⟩
   case round =>
    clear hst h1'' f1''
    obtain ⟨k, hk, rfl, hF⟩ := hrel
    by_cases hlt : k < l
    ·obtain ⟨g, rfl, g2, g3, g4⟩ := hF.src k (by have := HL.out; omega)
     have c1 : wr.cell? ⟨b, 1, none⟩ = some (.slice (some ⟨nb, 0, none⟩) M M) := by rw [cell_of hF.1]; rfl
     have c3 : wr.cell? ⟨b, 3, none⟩ = some (.int .u32 s.o) := by rw [cell_of hF.1]; rfl
     have hlk : k < s.xs.length := by have := HL.out; omega
     have hlM : s.xs.length < M := by have := HMM.out; have := HN.out; have := HM.out; omega
     have hM0 : 0 < M := by omega
     obtain ⟨q, hq⟩ : ∃ q, q = (s.o + k) % M := ⟨_, rfl⟩
     have hF2 := fun n => fill_step (hF.drewN n) hlk hlM hnb1 hbb.1 (HGA.out)
     obtain ⟨qs, c5, c6, c7⟩ := hF.2.1
     have c8 : q < M := by rw [hq]; exact Nat.mod_lt _ hM0
     have c9 : ∃ y, wr.cell? ⟨nb, q, none⟩ = some y := by rw [cell_of c5]; simp; rw [List.getElem?_eq_getElem (by omega)]; exact ⟨_, _, rfl, rfl⟩
     obtain ⟨y, c9⟩ := c9
     have c10 : wr.frozen? ⟨nb, q, none⟩ = false := frozen_of c5 _
     have P0 : Calls Tryz.prog 133 #[.pointer (some ⟨b, 0, none⟩), .int .u32 (((s.o : Int) + k) % 4294967296)] wr fun e w' => e = .returned (.pointer (some ⟨nb, q, none⟩)) ∧ ∃ n', w' = wr.drewN n' := by
      obtain ⟨⟨kk, hkk⟩, hkm⟩ := HM1.out
      have := place_any b nb M kk ((s.o + k) % 4294967296 : Nat) wr (by omega) (by omega) hkk hkm c1
      rw [toNat_mod, mod32 hkk hkm, ← hq] at this
      have e : (((s.o + k) % 4294967296 : Nat) : Int) = ((s.o : Int) + k) % 4294967296 := by omega
      rw [e] at this
      exact this
     rw [← hq] at hF2
     obtain ⟨x, hx⟩ : ∃ x, x = s.xs.getD k 0 := ⟨_, rfl⟩
     rw [← hx] at hF2 g4
     have hk4 : k < 4096 := by omega
     clear hx hq c5 c6 c7 hlM c8 hlk hF hM0
     go_wp2_with (go_at_call 133; refine P0.mono ?_; rintro e w' ⟨rfl, n2, rfl⟩)
     go_roundw
     case rel => exact ⟨k + 1, by omega, by go_num, hF2 _⟩
     case measure => simp [intOf]; omega
    ·go_wp2
     obtain rfl : k = l := by omega
     refine bodyPost_end (results_none rfl _ _ _) rfl ⟨rfl, nb, M, ?_, ?_, by have := HB.out; omega, hF.2.2.1⟩
     ·have h7 := HL.out
      subst h7
      exact fill_end hF HH.out.1 hla (by have := HMM.out; have := HN.out; have := HM.out; omega) HM1.out.1 HM1.out.2 (by have := HB.out; omega)
     ·have := HMM.out; have := HN.out; have := HM.out; omega
end
end Go.Proofs.YtmmegmonmilkcaaGreatDoor.RU
namespace Go.Proofs.YtmmegmonmilkcaaGreatDoor.RU
open Go.RowKit
def Stp (b pb : Nat) (w w' : World) (s' : RingSt) : Prop := ∃ pb' m', RingAt w' b pb' m' s' ∧ Fr b pb w w' ∧ (pb' = pb ∨ w.heap.size ≤ pb')
section
variable {w : World} {b pb m : Nat} {s : RingSt}
theorem Stp.ofDrew (h : RingAt w b pb m s) (n : Nat) : Stp b pb w (w.drewN n) s := ⟨pb, m, h, (Fr.refl _ _ _).drewN n, Or.inl rfl⟩
theorem Stp.ofSame (h : RingAt w b pb m s) : Stp b pb w w s := ⟨pb, m, h, Fr.refl _ _ _, Or.inl rfl⟩
theorem ring_widen (h : RingAt w b pb m s) (hla : s.laid = false) (hlt : (s.xs.length : Int) < min (max s.room 1) 4096) :
  Calls Tryz.prog 132 #[.pointer (some ⟨b, 0, none⟩)] w fun e w' => e = .returned (.tuple #[]) ∧ ∃ nb M, RingAt w' b nb M s ∧ s.xs.length < M ∧ (nb = pb ∨ w.heap.size ≤ nb) ∧ Fr b pb w w' := by
 rcases Nat.lt_or_ge s.xs.length m with c | c
 ·refine (widen_no h c).mono ?_
  rintro e w' ⟨rfl, n, rfl⟩
  exact ⟨rfl, pb, m, h, c, Or.inl rfl, (Fr.refl _ _ _).drewN n⟩
 ·refine (widen_yes h c hla hlt).mono ?_
  rintro e w' ⟨rfl, nb, M, h1, h2, h3, h4⟩
  exact ⟨rfl, nb, M, h1, h2, Or.inr h3, h4⟩
theorem lay_laid (h : RingAt w b pb m s) (hla : s.laid = true) (v : Int) :
  Calls Tryz.prog 109 #[.pointer (some ⟨b, 0, none⟩), .int .u64 v] w fun e w' => e = .returned (.int .i64 13) ∧ w = w' := by
 have h4 : w.cell? ⟨b, 4, none⟩ = some (.bool true) := by obtain ⟨_, ⟨t, ht⟩, _⟩ := h; rw [cell_of ht, hla]; rfl
 clear h hla
 go_enter Tryz.func109, Tryz.ntmps109
 go_wp2
 go_ret
 exact ⟨rfl, rfl⟩
theorem lay_full (h : RingAt w b pb m s) (hla : s.laid = false) (hf : s.free = 0) (v : Int) :
  Calls Tryz.prog 109 #[.pointer (some ⟨b, 0, none⟩), .int .u64 v] w fun e w' => e = .returned (.int .i64 7) ∧ ∃ n, w' = w.drewN n := by
 have h4 : w.cell? ⟨b, 4, none⟩ = some (.bool false) := by obtain ⟨_, ⟨t, ht⟩, _⟩ := h; rw [cell_of ht, hla]; rfl
 have R := ring_room h
 rw [hf] at R
 clear h hla hf
 go_enter Tryz.func109, Tryz.ntmps109
 go_wp2_with (go_at_call 105; refine R.mono ?_; rintro e w' ⟨rfl, n, rfl⟩)
 go_ret
 exact ⟨rfl, _, rfl⟩
def RingSt.lay (s : RingSt) (v : Int) : RingSt := { s with laid := true, lv := v }
theorem at_laid (h : RingAt w b pb m s) (_hla : s.laid = false) (hlt : (s.xs.length : Int) < min (max s.room 1) 4096) (hm : s.xs.length < m) (v : Int) :
  RingAt ((w.setCell ⟨pb, s.i % m, none⟩ (.int .u64 v)).setCell ⟨b, 4, none⟩ (.bool true)) b pb m (s.lay v) := by
 obtain ⟨ps, ⟨k, hk⟩, hm2, hne, hp, hpl, hcap, hxs, hlv⟩ := h.filled (by omega)
 obtain ⟨ok, ⟨t, ht⟩, h3⟩ := h
 obtain ⟨o1, o2, o3, o4⟩ := ok
 refine ⟨⟨o1, o2, o3, ?_⟩, ⟨t, ?_⟩, Or.inr ⟨ps.set (s.i % m) v, ⟨k, hk⟩, hm2, hne, ?_, by simpa using hpl, ?_, ?_, ?_⟩⟩
 ·simp [RingSt.lay, one]; omega
 ·rw [heap_set (c := #[.int .i64 s.room, pval pb m, .int .u32 (s.i : Int), .int .u32 (s.o : Int), .bool s.laid]) (by rw [heap_set_ne _ (by simpa using hne.symm)]; exact ht)]
  simp [RingSt.lay]
 ·rw [heap_set_ne _ hne, heap_set hp]; simp [List.map_set]
 ·simp [RingSt.lay, one]; omega
 ·intro j hj
  have hj' : j < s.xs.length := hj
  show (ps.set (s.i % m) v)[(s.o + j) % m]? = s.xs[j]?
  rw [List.getElem?_set_ne]
  ·exact hxs j hj'
  ·intro d
   rw [← o3, mod32 hk hm2] at d
   have := dist (m := m) (o := s.o) (j := s.xs.length) (j' := j) hm (by omega) d
   omega
 ·intro _
  show (ps.set (s.i % m) v)[s.i % m]? = some v
  rw [List.getElem?_set_self]
  rw [hpl]; exact Nat.mod_lt _ (by omega)
set_option maxHeartbeats 400000 in
theorem lay_ok (h : RingAt w b pb m s) (hla : s.laid = false) (hlt : (s.xs.length : Int) < min (max s.room 1) 4096) (v : Int) :
  Calls Tryz.prog 109 #[.pointer (some ⟨b, 0, none⟩), .int .u64 v] w fun e w' => e = .returned (.int .i64 0) ∧ Stp b pb w w' (s.lay v) := by
 have h4 : w.cell? ⟨b, 4, none⟩ = some (.bool false) := by obtain ⟨_, ⟨t, ht⟩, _⟩ := h; rw [cell_of ht, hla]; rfl
 have R := ring_room h
 have hfr : ¬ s.free = 0 := by rw [RingSt.free, hla, one]; simp; omega
 have W := fun n => ring_widen (h.drewN n) hla hlt
 obtain ⟨f, hf⟩ : ∃ f, f = s.free := ⟨_, rfl⟩
 rw [← hf] at R hfr
 have hfr2 : (f == 0) = false := by simpa using hfr
 have HLA : Hid (s.laid = false) := hla
 clear h hla hf hfr
 go_enter Tryz.func109, Tryz.ntmps109
 go_wp2_with (first
  | (go_at_call 105; refine R.mono ?_; rintro e w' ⟨rfl, n, rfl⟩))
 go_at_call 132
 refine (W _).mono ?_
 rintro e w1 ⟨rfl, nb, M, hR, hM, hnb, hF⟩
 obtain ⟨ps, hFi⟩ := hR.filled (by omega)
 have c2 : w1.cell? ⟨b, 2, none⟩ = some (.int .u32 s.i) := by obtain ⟨_, ⟨t, ht⟩, _⟩ := hR; rw [cell_of ht]; rfl
 have c4 : w1.cell? ⟨b, 4, none⟩ = some (.bool false) := by obtain ⟨_, ⟨t, ht⟩, _⟩ := hR; rw [cell_of ht, HLA.out]; rfl
 have f4 : w1.frozen? ⟨b, 4, none⟩ = false := by obtain ⟨_, ⟨t, ht⟩, _⟩ := hR; exact frozen_of ht 4
 have P := ring_place hR (by omega) s.i hR.1.hi
 have hA := fun n => at_laid (hR.drewN n) HLA.out hlt hM v
 have hq : s.i % M < M := Nat.mod_lt _ (by omega)
 obtain ⟨q, hqq⟩ : ∃ q, q = s.i % M := ⟨_, rfl⟩
 rw [← hqq] at hA P hq
 have fq : w1.frozen? ⟨nb, q, none⟩ = false := frozen_of hFi.2.2.2.1 q
 obtain ⟨y, cq⟩ : ∃ y, w1.cell? ⟨nb, q, none⟩ = some y := by rw [cell_of hFi.2.2.2.1]; simp; rw [List.getElem?_eq_getElem (by have := hFi.2.2.2.2.1; omega)]; exact ⟨_, _, rfl, rfl⟩
 have hne : nb ≠ b := hFi.2.2.1
 have HNB : Hid (nb = pb ∨ w.heap.size ≤ nb) := hnb
 clear W R hFi hR hqq hnb
 go_wp2_with (go_at_call 133; refine P.mono ?_; rintro e w' ⟨rfl, n2, rfl⟩)
 go_ret
 refine ⟨rfl, nb, M, hA _, ?_, HNB.out⟩
 have hF2 : Fr b pb w w1 := ⟨hF.os, hF.tape, hF.output, hF.size, hF.block⟩
 exact ((hF2.drewN n2).setCell (by have := HNB.out; exact Or.inr this) _).set0 _ _
end
end Go.Proofs.YtmmegmonmilkcaaGreatDoor.RU
namespace Go.Proofs.YtmmegmonmilkcaaGreatDoor.RU
open Go.RowKit
def layE (s : RingSt) : Int := if s.laid then 13 else if s.free = 0 then 7 else 0
def layS (s : RingSt) (v : Int) : RingSt := if layE s = 0 then s.lay v else s
def pubE (s : RingSt) : Int := if s.laid then 0 else 13
def pubS (s : RingSt) : RingSt := if s.laid then s.published else s
def pushS (s : RingSt) (v : Int) : RingSt := if layE s = 0 then (s.lay v).published else s
def peekV (s : RingSt) : Int := s.xs.headD 0
def peekE (s : RingSt) : Int := if s.xs = [] then 8 else 0
def freeS (s : RingSt) : RingSt := if s.xs = [] then s else s.freed
section
variable {w : World} {b pb m : Nat} {s : RingSt}
theorem free_pos (h : RingAt w b pb m s) (hla : s.laid = false) (hf : ¬ s.free = 0) : (s.xs.length : Int) < min (max s.room 1) 4096 := by
 have := h.1.hcap
 rw [RingSt.free] at hf
 rw [hla] at this hf
 simp only [one] at this hf
 simp at this hf
 omega
theorem ring_lay (h : RingAt w b pb m s) (v : Int) :
  Calls Tryz.prog 109 #[.pointer (some ⟨b, 0, none⟩), .int .u64 v] w fun e w' => e = .returned (.int .i64 (layE s)) ∧ Stp b pb w w' (layS s v) := by
 cases hla : s.laid
 ·by_cases hf : s.free = 0
  ·have e1 : layE s = 7 := by simp [layE, hla, hf]
   have e2 : layS s v = s := by simp [layS, e1]
   refine (lay_full h hla hf v).mono ?_
   rintro e w' ⟨rfl, n, rfl⟩
   rw [e1, e2]
   exact ⟨rfl, Stp.ofDrew h n⟩
  ·have e1 : layE s = 0 := by simp [layE, hla, hf]
   have e2 : layS s v = s.lay v := by simp [layS, e1]
   refine (lay_ok h hla (free_pos h hla hf) v).mono ?_
   rintro e w' ⟨rfl, h2⟩
   rw [e1, e2]
   exact ⟨rfl, h2⟩
 ·have e1 : layE s = 13 := by simp [layE, hla]
  have e2 : layS s v = s := by simp [layS, e1]
  refine (lay_laid h hla v).mono ?_
  rintro e w' ⟨rfl, rfl⟩
  rw [e1, e2]
  exact ⟨rfl, Stp.ofSame h⟩
theorem ring_publish (h : RingAt w b pb m s) :
  Calls Tryz.prog 110 #[.pointer (some ⟨b, 0, none⟩)] w fun e w' => e = .returned (.int .i64 (pubE s)) ∧ Stp b pb w w' (pubS s) := by
 cases hla : s.laid
 ·refine (ring_publish_none h hla).mono ?_
  rintro e w' ⟨rfl, rfl⟩
  simp only [pubE, pubS, hla]
  exact ⟨rfl, Stp.ofSame h⟩
 ·refine (ring_publish_some h hla).mono ?_
  rintro e w' ⟨rfl, h1, h2⟩
  simp only [pubE, pubS, hla]
  exact ⟨rfl, pb, m, h1, h2, Or.inl rfl⟩
theorem ring_free (h : RingAt w b pb m s) :
  Calls Tryz.prog 142 #[.pointer (some ⟨b, 0, none⟩)] w fun e w' => e = .returned (.int .i64 (peekE s)) ∧ ∃ n, RingAt w' b pb m (freeS s) ∧ Fr b pb w w' ∧ (s.xs = [] → w' = w.drewN n) := by
 cases hx : s.xs with
 | nil =>
  refine (ring_free_none h hx).mono ?_
  rintro e w' ⟨rfl, n, rfl⟩
  simp only [peekE, freeS, hx]
  exact ⟨rfl, n, h.drewN n, (Fr.refl _ _ _).drewN n, fun _ => rfl⟩
 | cons x r =>
  refine (ring_free_some h hx).mono ?_
  rintro e w' ⟨rfl, h1, h2⟩
  simp only [peekE, freeS, hx]
  exact ⟨rfl, 0, h1, h2, fun c => by cases c⟩
theorem ring_peek (h : RingAt w b pb m s) :
  Calls Tryz.prog 117 #[.pointer (some ⟨b, 0, none⟩)] w fun e w' => e = .returned (.tuple #[.int .u64 (peekV s), .int .i64 (peekE s)]) ∧ ∃ n, w' = w.drewN n := by
 cases hx : s.xs with
 | nil =>
  refine (ring_peek_none h hx).mono ?_
  rintro e w' ⟨rfl, h⟩
  simp only [peekE, peekV, hx]
  exact ⟨rfl, h⟩
 | cons x r =>
  refine (ring_peek_some h hx).mono ?_
  rintro e w' ⟨rfl, h1⟩
  simp only [peekE, peekV, hx]
  exact ⟨rfl, h1⟩
theorem ring_pop (h : RingAt w b pb m s) :
  Calls Tryz.prog 125 #[.pointer (some ⟨b, 0, none⟩)] w fun e w' => e = .returned (.tuple #[.int .u64 (peekV s), .int .i64 (peekE s)]) ∧ RingAt w' b pb m (freeS s) ∧ Fr b pb w w' := by
 have K := ring_peek h
 have F := fun n => ring_free (h.drewN n)
 by_cases hx : s.xs = []
 ·have e1 : peekE s = 8 := by simp [peekE, hx]
  have e2 : freeS s = s := by simp [freeS, hx]
  rw [e1] at K ⊢
  rw [e2]
  clear F e1 e2 hx
  generalize peekV s = v at *
  have HH : Hid (RingAt w b pb m s) := h
  clear h
  go_enter Tryz.func125, Tryz.ntmps125
  go_wp2_with (go_at_call 117; refine K.mono ?_; rintro e w' ⟨rfl, n, rfl⟩)
  go_ret2
  exact ⟨rfl, HH.out.drewN n, (Fr.refl _ _ _).drewN n⟩
 ·have e1 : peekE s = 0 := by simp [peekE, hx]
  rw [e1] at K F ⊢
  clear e1 hx
  generalize peekV s = v at *
  generalize freeS s = s' at *
  have HH : Hid (RingAt w b pb m s) := h
  clear h
  go_enter Tryz.func125, Tryz.ntmps125
  go_wp2_with (first
   | (go_at_call 117; refine K.mono ?_; rintro e w' ⟨rfl, n, rfl⟩)
   | (go_at_call 142; refine (F _).mono ?_; rintro e w' ⟨rfl, n2, hR, hF, _⟩))
  go_ret2
  exact ⟨rfl, hR, ⟨hF.os, hF.tape, hF.output, hF.size, hF.block⟩⟩
theorem ring_push (h : RingAt w b pb m s) (v : Int) :
  Calls Tryz.prog 84 #[.pointer (some ⟨b, 0, none⟩), .int .u64 v] w fun e w' => e = .returned (.int .i64 (layE s)) ∧ Stp b pb w w' (pushS s v) := by
 have K := ring_lay h v
 by_cases h0 : layE s = 0
 ·have e1 : pushS s v = (s.lay v).published := by simp [pushS, h0]
  have e2 : layS s v = s.lay v := by simp [layS, h0]
  have e3 : pubS (s.lay v) = (s.lay v).published := by simp [pubS, RingSt.lay]
  have e4 : pubE (s.lay v) = 0 := by simp [pubE, RingSt.lay]
  rw [h0, e2] at K
  rw [e1, h0, ← e3]
  have HE : Hid (pubE (s.lay v) = 0) := e4
  clear h0 e1 e2 e3 e4
  generalize s.lay v = s1 at *
  clear h
  go_enter Tryz.func84, Tryz.ntmps84
  go_wp2_with (go_at_call 109; refine K.mono ?_; rintro e w' ⟨rfl, pb', m', hR, hF, hP⟩)
  go_at_call 110
  refine (ring_publish hR).mono ?_
  rintro e w' ⟨rfl, pb2, m2, hR2, hF2, hP2⟩
  rw [HE.out]
  have hS : Stp b pb w w' (pubS s1) := ⟨pb2, m2, hR2, hF.trans hF2 hP, by have := hF.size; omega⟩
  clear hR hF hP hR2 hF2 hP2
  go_wp2
  go_ret
  exact ⟨rfl, hS⟩
 ·have e1 : pushS s v = s := by simp [pushS, h0]
  have e2 : layS s v = s := by simp [layS, h0]
  rw [e2] at K
  rw [e1]
  have h1 : (layE s == 0) = false := by simpa using h0
  have h2 : (layE s != 0) = true := by simpa using h0
  clear e1 e2 h h0
  generalize layE s = er at *
  go_enter Tryz.func84, Tryz.ntmps84
  go_wp2_with (go_at_call 109; refine K.mono ?_; rintro e w' ⟨rfl, hS⟩)
  go_ret
  exact ⟨rfl, hS⟩
end
end Go.Proofs.YtmmegmonmilkcaaGreatDoor.RU
namespace Go.Proofs.YtmmegmonmilkcaaGreatDoor.RU
open Go.RowKit
def ring0 (room : Int) (i : Nat) : RingSt := ⟨room, i, i, false, 0, []⟩
theorem ring_new (room : Int) (i : Nat) (hi : i < 4294967296) (w : World) : Calls Tryz.prog 108 #[.int .i64 room, .int .u32 (i : Int)] w fun e w' => e = .returned (.pointer (some ⟨w.heap.size, 0, none⟩)) ∧ RingAt w' w.heap.size w.heap.size 0 (ring0 room i) ∧ Below w.heap.size w w' ∧ w.heap.size < w'.heap.size := by
 have ok : RingOk (ring0 room i) := by
  refine ⟨hi, hi, ?_, ?_⟩
  ·show (i + 0) % 4294967296 = i
   omega
  ·simp only [ring0, one, List.length_nil]
   simp
   omega
 have R : ∀ t, RingAt (w.alloc (.cells #[.int .i64 room, .slice none 0 0, .int .u32 (i : Int), .int .u32 (i : Int), .bool false] t)) w.heap.size w.heap.size 0 (ring0 room i) := fun t =>
  ⟨ok, ⟨t, heap_alloc_new w _⟩, Or.inl ⟨rfl, rfl, rfl, rfl⟩⟩
 have B : ∀ t, Below w.heap.size w (w.alloc (.cells #[.int .i64 room, .slice none 0 0, .int .u32 (i : Int), .int .u32 (i : Int), .bool false] t)) := fun t => (Below.refl _ _).alloc (Nat.le_refl _) _
 have HR : Hid _ := R
 clear ok R
 go_enter Tryz.func108, Tryz.ntmps108
 go_wp2
 go_ret
 exact ⟨rfl, HR _, B _, by simp⟩
end Go.Proofs.YtmmegmonmilkcaaGreatDoor.RU
