/-
  A packet as words, and words as a packet, as plain mathematics (layer 10).
  The walk of flit.pack at a Head, and of the document's Write at a Head.
  The walk of flit.pack at a Body or a Tail.
  The walk of flit.Write.
  The walk of the document's own Write, at a Head.
  append of one value onto a row of the call's own, as one law.
  The walk of the document's own Write, at a Body or a Tail.
  The walk of unpackHead.
  The walk of unpackData.
  The walks of unpack and flit.Read.
  The walk of the document's own Read, at a Head's word.
  The walk of the document's own Read, at any other word.
  The document's own Read, at any word.
  Parcels as values; blocks that hold given cells; rows of structs of the call's own, and an append of one at a step of a region that draws. No function in it.
  A region that draws its order and ends in a store into a cell that it has loaded ('x.f = append(x.f, ..)'): loads may be taken first, by a condition S on the world that need hold only till that store (operation 'st') has come up. No function in it.
  Regions that draw their order: whichever of several comes up; one whose callees lay blocks of their own, walked once (the class of all worlds in which the old blocks are as they were). No function in it.
-/
import Derived.Test.YtoejpngdkcnnhaaGreatBase
import Derived.Deep.RegionHeld3
import Derived.IntWalk
import Derived.Laws.IdiomStrings
import Derived.RegionTactic
import Derived.BigRegion
import Derived.Maps.AppendAt
import Derived.Deep.CutRange
import Derived.BigQuiet
import Derived.Laws.OwnMore
import Derived.OrdersHeld

namespace Go.Proofs.YtoejpngdkcnnhaaGreat

/-- A piece of a text, by its bytes. -/
theorem ext_data (x : ByteArray) (a b : Nat) : (x.extract a b).data.toList = (x.data.toList.take b).drop a := by
  rw [ByteArray.data_extract, Array.toList_extract, List.extract_eq_take_drop, List.drop_take]
theorem ba_ext {x y : ByteArray} (h : x.data.toList = y.data.toList) : x = y := by
  obtain ⟨⟨a⟩⟩ := x
  obtain ⟨⟨b⟩⟩ := y
  simp only at h
  rw [h]
theorem ba_size (x : ByteArray) : x.size = x.data.toList.length := by
  show x.data.size = _
  simp
theorem app_data (x y : ByteArray) : (x ++ y).data.toList = x.data.toList ++ y.data.toList := by
  rw [ByteArray.data_append]
  simp

theorem app_empty : ByteArray.empty ++ ByteArray.empty = ByteArray.empty := ba_ext (by rw [app_data]; rfl)

/-- A parcel by value. -/
structure Pc where
  s : Int
  c : Bool
  hs : List (Int × Int)
  x : ByteArray

abbrev zp : Pc := ⟨0, false, [], ByteArray.empty⟩

def headOk (h : Int × Int) : Bool := decide (0 ≤ h.1 ∧ h.1 ≤ 4095 ∧ 0 ≤ h.2 ∧ h.2 ≤ 65535)
/-- It may be. -/
def Pc.okB (p : Pc) : Bool := (decide (0 ≤ p.s) && decide (p.s ≤ 4095)) && ((decide (1 ≤ p.hs.length) && (decide (p.hs.length ≤ 4096) && (p.c || decide (p.hs.length = 1)))) && (decide (p.x.size ≤ 64) && p.hs.all headOk))
/-- The word of a Head: the i-th of n. -/
def hdF (p : Pc) (i : Nat) : Fl := ⟨1, p.s, (p.hs.getD i (0, 0)).1, (p.hs.getD i (0, 0)).2, p.x.size, decide (i + 1 < p.hs.length), p.c, ByteArray.empty⟩
/-- How many Bodies; what is left behind j of them. -/
def nb (n : Nat) : Nat := (n - 1) / 6
def restX (x : ByteArray) (j : Nat) : ByteArray := x.extract (6 * j) x.size
def bdF (x : ByteArray) (j : Nat) : Fl := ⟨2, 0, 0, 0, 0, false, false, x.extract (6 * j) (6 * j + 6)⟩
def tlF (x : ByteArray) : Fl := ⟨3, 0, 0, 0, 0, false, false, restX x (nb x.size)⟩
/-- A parcel's flits, and its words. -/
def Pc.fls (p : Pc) : List Fl := (List.range p.hs.length).map (hdF p) ++ ((List.range (nb p.x.size)).map (bdF p.x) ++ [tlF p.x])
def Pc.ws (p : Pc) : List Nat := p.fls.map Fl.word
def Pc.wordsR (p : Pc) : List Nat × Int := if 64 < p.x.size then ([], 4) else if p.okB = true then (p.ws, 0) else ([], 1)

theorem headOk_iff (h : Int × Int) : headOk h = true ↔ 0 ≤ h.1 ∧ h.1 ≤ 4095 ∧ 0 ≤ h.2 ∧ h.2 ≤ 65535 := by unfold headOk; rw [decide_eq_true_eq]
theorem ok_iff (p : Pc) : p.okB = true ↔ (0 ≤ p.s ∧ p.s ≤ 4095) ∧ (1 ≤ p.hs.length ∧ p.hs.length ≤ 4096 ∧ (p.c = true ∨ p.hs.length = 1)) ∧ p.x.size ≤ 64 ∧ ∀ h ∈ p.hs, headOk h = true := by
  unfold Pc.okB
  simp only [Bool.and_eq_true, Bool.or_eq_true, decide_eq_true_eq, List.all_eq_true]

theorem restX_size (x : ByteArray) (j : Nat) : (restX x j).size = x.size - 6 * j := by
  unfold restX
  rw [ByteArray.size_extract]
  omega
theorem restX_zero (x : ByteArray) : restX x 0 = x := by
  apply ba_ext
  unfold restX
  rw [ext_data, Nat.mul_zero, List.drop_zero, ba_size, List.take_length]
theorem restX_head (x : ByteArray) (j : Nat) : (restX x j).extract 0 6 = x.extract (6 * j) (6 * j + 6) := by
  apply ba_ext
  unfold restX
  rw [ext_data, ext_data, ext_data, List.drop_zero, ba_size, List.take_length]
  rw [show 6 * j + 6 = 6 + 6 * j by omega, List.drop_take, show 6 + 6 * j - 6 * j = 6 by omega]
theorem restX_tail (x : ByteArray) (j : Nat) : (restX x j).extract 6 (restX x j).size = restX x (j + 1) := by
  apply ba_ext
  rw [ext_data, ba_size, List.take_length]
  unfold restX
  rw [ext_data, ext_data, ba_size, List.take_length, List.drop_drop, Nat.mul_add]
theorem nb_more {x : ByteArray} {j : Nat} : j < nb x.size ↔ 6 < (restX x j).size := by
  rw [restX_size]
  unfold nb
  omega
theorem nb_end {x : ByteArray} : (restX x (nb x.size)).size ≤ 6 := by
  rw [restX_size]
  unfold nb
  omega

theorem hd_right {p : Pc} (h : p.okB = true) {i : Nat} (hi : i < p.hs.length) : (hdF p i).rightB = true := by
  obtain ⟨⟨h1, h2⟩, _, h3, h4⟩ := (ok_iff p).1 h
  have hm : p.hs.getD i (0, 0) ∈ p.hs := by rw [List.getD_eq_getElem?_getD, List.getElem?_eq_getElem hi]; exact List.getElem_mem _
  obtain ⟨a1, a2, a3, a4⟩ := (headOk_iff _).1 (h4 _ hm)
  have e : (hdF p i).k = 1 := rfl
  rw [fl_right_one e, head_iff, Bool.and_eq_true]
  refine ⟨decide_eq_true ⟨h1, h2, a1, a2, a3, a4, by show (0 : Int) ≤ (p.x.size : Int); omega, by show (p.x.size : Int) ≤ 64; omega⟩, by show ByteArray.empty.toList.isEmpty = true; simp⟩
theorem only_of (k : Int) (x : ByteArray) : (Fl.mk k 0 0 0 0 false false x).onlyB = true := (Fl.eqB_iff _ _).2 rfl
theorem bd_right {x : ByteArray} {j : Nat} (h : j < nb x.size) : (bdF x j).rightB = true := by
  have e : (bdF x j).k = 2 := rfl
  rw [fl_right_two e, show (bdF x j).onlyB = true from only_of _ _, Bool.true_and, decide_eq_true_eq]
  have := nb_more.1 h
  rw [restX_size] at this
  show (x.extract (6 * j) (6 * j + 6)).size = 6
  rw [ByteArray.size_extract]
  omega
theorem tl_right (x : ByteArray) : (tlF x).rightB = true := by
  have e : (tlF x).k = 3 := rfl
  rw [fl_right_three e, show (tlF x).onlyB = true from only_of _ _, Bool.true_and, decide_eq_true_eq]
  exact nb_end
theorem fls_right {p : Pc} (h : p.okB = true) : ∀ f ∈ p.fls, f.rightB = true := by
  intro f hf
  unfold Pc.fls at hf
  simp only [List.mem_append, List.mem_map, List.mem_range, List.mem_singleton] at hf
  rcases hf with ⟨i, hi, rfl⟩ | ⟨j, hj, rfl⟩ | rfl
  · exact hd_right h hi
  · exact bd_right hj
  · exact tl_right _
theorem fls_len (p : Pc) : p.fls.length = p.hs.length + (nb p.x.size + 1) := by unfold Pc.fls; simp
theorem ws_len (p : Pc) : p.ws.length = p.hs.length + (nb p.x.size + 1) := by unfold Pc.ws; rw [List.length_map, fls_len]

/-- What is told of flits, one behind the other. -/
def Pc.add (p : Pc) (f : Fl) : Pc := if f.k = 1 then ⟨f.s, f.c, p.hs ++ [(f.d, f.q)], p.x ++ f.x⟩ else ⟨p.s, p.c, p.hs, p.x ++ f.x⟩
def coll (fs : List Fl) : Pc := fs.foldl Pc.add zp
theorem coll_snoc (fs : List Fl) (f : Fl) : coll (fs ++ [f]) = (coll fs).add f := by unfold coll; rw [List.foldl_append]; rfl

theorem take_heads {p : Pc} : ∀ n, n ≤ p.hs.length → ((List.range n).map (hdF p)).foldl Pc.add zp = if n = 0 then zp else ⟨p.s, p.c, p.hs.take n, ByteArray.empty⟩ := by
  intro n
  induction n with
  | zero => intro _; rfl
  | succ n ih =>
    intro hn
    rw [List.range_succ, List.map_append, List.foldl_append, ih (by omega)]
    show Pc.add _ (hdF p n) = _
    have e : p.hs.take (n + 1) = p.hs.take n ++ [p.hs.getD n (0, 0)] := by
      rw [List.take_add_one, List.getElem?_eq_getElem (by omega)]
      simp [List.getD_eq_getElem?_getD, List.getElem?_eq_getElem (show n < p.hs.length by omega)]
    unfold Pc.add
    rw [if_pos (show (hdF p n).k = 1 from rfl), if_neg (Nat.succ_ne_zero n), e]
    cases n with
    | zero =>
      show (⟨p.s, p.c, [] ++ [((p.hs.getD 0 (0, 0)).1, (p.hs.getD 0 (0, 0)).2)], ByteArray.empty ++ ByteArray.empty⟩ : Pc) = _
      rw [app_empty]
      rfl
    | succ n =>
      rw [if_neg (Nat.succ_ne_zero n)]
      show (⟨p.s, p.c, p.hs.take (n + 1) ++ [((p.hs.getD (n + 1) (0, 0)).1, (p.hs.getD (n + 1) (0, 0)).2)], ByteArray.empty ++ ByteArray.empty⟩ : Pc) = _
      rw [app_empty]
theorem take_bodies (s : Int) (c : Bool) (hs : List (Int × Int)) (x : ByteArray) : ∀ n, n ≤ nb x.size → ((List.range n).map (bdF x)).foldl Pc.add ⟨s, c, hs, ByteArray.empty⟩ = ⟨s, c, hs, x.extract 0 (6 * n)⟩ := by
  intro n
  induction n with
  | zero =>
    intro _
    rw [show x.extract 0 (6 * 0) = ByteArray.empty from ba_ext (by rw [ext_data]; rfl)]
    rfl
  | succ n ih =>
    intro hn
    rw [List.range_succ, List.map_append, List.foldl_append, ih (by omega)]
    show (⟨s, c, hs, x.extract 0 (6 * n) ++ x.extract (6 * n) (6 * n + 6)⟩ : Pc) = _
    congr 1
    apply ba_ext
    rw [app_data, ext_data, ext_data, ext_data, List.drop_zero, List.drop_zero, show 6 * (n + 1) = 6 * n + 6 by omega]
    have : x.data.toList.take (6 * n + 6) = (x.data.toList.take (6 * n + 6)).take (6 * n) ++ (x.data.toList.take (6 * n + 6)).drop (6 * n) := (List.take_append_drop _ _).symm
    rw [List.take_take, Nat.min_eq_left (by omega)] at this
    exact this.symm
/-- P10.2: what is cut is read as it was. -/
theorem coll_fls {p : Pc} (h : 1 ≤ p.hs.length) : coll p.fls = p := by
  unfold coll Pc.fls
  rw [List.foldl_append, take_heads _ (Nat.le_refl _), if_neg (by omega), List.take_length, List.foldl_append, take_bodies _ _ _ _ _ (Nat.le_refl _)]
  show (⟨p.s, p.c, p.hs, p.x.extract 0 (6 * nb p.x.size) ++ restX p.x (nb p.x.size)⟩ : Pc) = p
  obtain ⟨s, c, hs, x⟩ := p
  congr 1
  apply ba_ext
  unfold restX
  rw [app_data, ext_data, ext_data, List.drop_zero, ba_size, List.take_length, List.take_append_drop]

/-- The error of the first word that is none's; 0: all are flits'. -/
def errR : List Nat → Int
  | [] => 0
  | w :: l => if (readR w).2 ≠ 0 then (readR w).2 else errR l
/-- The parcel whose words these are. -/
def readPc (l : List Nat) : Pc × Int := if errR l ≠ 0 then (zp, errR l) else if (coll (l.map fun w => (readR w).1)).wordsR = (l, 0) then (coll (l.map fun w => (readR w).1), 0) else (zp, 2)
theorem errR_word {fs : List Fl} (h : ∀ f ∈ fs, f.rightB = true) : errR (fs.map Fl.word) = 0 ∧ (fs.map Fl.word).map (fun w => (readR w).1) = fs := by
  induction fs with
  | nil => exact ⟨rfl, rfl⟩
  | cons f fs ih =>
    obtain ⟨i1, i2⟩ := ih fun g hg => h g (List.mem_cons_of_mem _ hg)
    have e := readR_word (h f (List.mem_cons_self ..))
    refine ⟨?_, ?_⟩
    · show (if (readR f.word).2 ≠ 0 then (readR f.word).2 else errR (fs.map Fl.word)) = 0
      rw [e]
      simpa using i1
    · show (readR f.word).1 :: (fs.map Fl.word).map (fun w => (readR w).1) = f :: fs
      rw [e, i2]
theorem read_ws {p : Pc} (h : p.okB = true) : readPc p.ws = (p, 0) := by
  obtain ⟨e1, e2⟩ := errR_word (fls_right h)
  obtain ⟨_, h1, h2, _⟩ := (ok_iff p).1 h
  have e3 : coll p.fls = p := coll_fls h1.1
  unfold readPc
  rw [show errR p.ws = 0 from e1, show p.ws.map (fun w => (readR w).1) = p.fls from e2, e3]
  have : p.wordsR = (p.ws, 0) := by unfold Pc.wordsR; rw [if_neg (by omega), if_pos h]
  rw [if_neg (by simp), if_pos this]
/-- Where a parcel's words lie. -/
theorem map_getD {α : Type} (F : α → Nat) {l : List α} {f : α} {i : Nat} (h : l[i]? = some f) : (l.map F).getD i 0 = F f := by
  rw [List.getD_eq_getElem?_getD, List.getElem?_map, h]
  rfl
theorem fls_head {p : Pc} {i : Nat} (h : i < p.hs.length) : p.fls[i]? = some (hdF p i) := by
  unfold Pc.fls
  rw [List.getElem?_append_left (by rw [List.length_map, List.length_range]; exact h), List.getElem?_map, List.getElem?_range h]
  rfl
theorem fls_body {p : Pc} {j : Nat} (h : j < nb p.x.size) : p.fls[p.hs.length + j]? = some (bdF p.x j) := by
  unfold Pc.fls
  rw [List.getElem?_append_right (by rw [List.length_map, List.length_range]; omega), List.length_map, List.length_range, Nat.add_sub_cancel_left, List.getElem?_append_left (by rw [List.length_map, List.length_range]; exact h), List.getElem?_map, List.getElem?_range h]
  rfl
theorem fls_tail (p : Pc) : p.fls[p.hs.length + nb p.x.size]? = some (tlF p.x) := by
  unfold Pc.fls
  rw [List.getElem?_append_right (by rw [List.length_map, List.length_range]; omega), List.length_map, List.length_range, Nat.add_sub_cancel_left, List.getElem?_append_right (by rw [List.length_map, List.length_range]; omega), List.length_map, List.length_range, Nat.sub_self]
  rfl
theorem ws_head {p : Pc} {i : Nat} (h : i < p.hs.length) : p.ws.getD i 0 = (hdF p i).word := by
  unfold Pc.ws
  exact map_getD Fl.word (fls_head h)
theorem ws_body {p : Pc} {j : Nat} (h : j < nb p.x.size) : p.ws.getD (p.hs.length + j) 0 = (bdF p.x j).word := by
  unfold Pc.ws
  exact map_getD Fl.word (fls_body h)
theorem ws_tail (p : Pc) : p.ws.getD (p.hs.length + nb p.x.size) 0 = (tlF p.x).word := by
  unfold Pc.ws
  exact map_getD Fl.word (fls_tail p)
end Go.Proofs.YtoejpngdkcnnhaaGreat

namespace Go.Proofs.YtoejpngdkcnnhaaGreat
open Go.RowKit

theorem below_drew {B : Nat} {w x : World} (h : Below B w x) : Below B w x.drew := ⟨h.os, h.tape, h.output, h.size, h.block⟩
theorem below_three (w : World) (a b c : Obj) : Below w.heap.size w (((w.alloc a).alloc b).alloc c) :=
  (((Below.refl _ _).alloc (Nat.le_refl _) _).alloc (by simp) _).alloc (by simp; omega) _

abbrev hsO : Obj := .cells #[.int .i64 2, .int .i64 12, .int .i64 12, .int .i64 16, .int .i64 7, .int .i64 1, .int .i64 1] 3
abbrev hvO (s d q l a b : Nat) : Obj := .cells #[.int .u32 1, .int .u32 s, .int .u32 d, .int .u32 q, .int .u32 l, .int .u32 a, .int .u32 b] 96

theorem small_head {s d q l a b : Nat} (hs : s ≤ 4095) (hd : d ≤ 4095) (hq : q ≤ 65535) (hl : l ≤ 64) (ha : a < 2) (hb : b < 2) : small [1, s, d, q, l, a, b] := by
  intro v hv
  simp at hv
  omega

/-- Pack of a Head's values, the sizes laid first. -/
theorem pack_hs1 (w : World) (o : Obj) (s d q l a b : Nat) (hs : s ≤ 4095) (hd : d ≤ 4095) (hq : q ≤ 65535) (hl : l ≤ 64) (ha : a < 2) (hb : b < 2) (R : Nat × Int) (hR : packR YtoejpngdkcnnhaaGreat.hs [1, s, d, q, l, a, b] = R) :
    Calls Tryz.prog 85 #[.slice (some ⟨w.heap.size + 1, 0, none⟩) 7 7, .slice (some ⟨w.heap.size + 1 + 1, 0, none⟩) 7 7] (((w.alloc o).alloc hsO).alloc (hvO s d q l a b)).drew fun e w' =>
      e = .returned (.tuple #[.int .u64 R.1, .int .i64 R.2]) ∧ Drew (((w.alloc o).alloc hsO).alloc (hvO s d q l a b)).drew w' := by
  have r1 : Rd (((w.alloc o).alloc hsO).alloc (hvO s d q l a b)).drew (some ⟨w.heap.size + 1, 0, none⟩) (vi YtoejpngdkcnnhaaGreat.hs) := by
    have := (rd_new (w.alloc o) (vi YtoejpngdkcnnhaaGreat.hs) 3).alloc (hvO s d q l a b)
    rw [show (w.alloc o).heap.size = w.heap.size + 1 by simp] at this
    exact this
  have r2 : Rd (((w.alloc o).alloc hsO).alloc (hvO s d q l a b)).drew (some ⟨w.heap.size + 1 + 1, 0, none⟩) (vu [1, s, d, q, l, a, b]) := by
    have := rd_new ((w.alloc o).alloc hsO) (vu [1, s, d, q, l, a, b]) 96
    rw [show ((w.alloc o).alloc hsO).heap.size = w.heap.size + 1 + 1 by simp] at this
    exact this
  have := pack_any _ _ _ 7 7 7 7 YtoejpngdkcnnhaaGreat.hs [1, s, d, q, l, a, b] rfl rfl (by omega) (by omega) r1 r2 (small_head hs hd hq hl ha hb)
  rw [hR] at this
  exact this

/-- Pack of a Head's values, the values laid first. -/
theorem pack_hs2 (w : World) (o : Obj) (s d q l a b : Nat) (hs : s ≤ 4095) (hd : d ≤ 4095) (hq : q ≤ 65535) (hl : l ≤ 64) (ha : a < 2) (hb : b < 2) (R : Nat × Int) (hR : packR YtoejpngdkcnnhaaGreat.hs [1, s, d, q, l, a, b] = R) :
    Calls Tryz.prog 85 #[.slice (some ⟨w.heap.size + 1 + 1, 0, none⟩) 7 7, .slice (some ⟨w.heap.size + 1, 0, none⟩) 7 7] (((w.alloc o).alloc (hvO s d q l a b)).alloc hsO).drew fun e w' =>
      e = .returned (.tuple #[.int .u64 R.1, .int .i64 R.2]) ∧ Drew (((w.alloc o).alloc (hvO s d q l a b)).alloc hsO).drew w' := by
  have r1 : Rd (((w.alloc o).alloc (hvO s d q l a b)).alloc hsO).drew (some ⟨w.heap.size + 1, 0, none⟩) (vu [1, s, d, q, l, a, b]) := by
    have := (rd_new (w.alloc o) (vu [1, s, d, q, l, a, b]) 96).alloc hsO
    rw [show (w.alloc o).heap.size = w.heap.size + 1 by simp] at this
    exact this
  have r2 : Rd (((w.alloc o).alloc (hvO s d q l a b)).alloc hsO).drew (some ⟨w.heap.size + 1 + 1, 0, none⟩) (vi YtoejpngdkcnnhaaGreat.hs) := by
    have := rd_new ((w.alloc o).alloc (hvO s d q l a b)) (vi YtoejpngdkcnnhaaGreat.hs) 3
    rw [show ((w.alloc o).alloc (hvO s d q l a b)).heap.size = w.heap.size + 1 + 1 by simp] at this
    exact this
  have := pack_any _ _ _ 7 7 7 7 YtoejpngdkcnnhaaGreat.hs [1, s, d, q, l, a, b] rfl rfl (by omega) (by omega) r2 r1 (small_head hs hd hq hl ha hb)
  rw [hR] at this
  exact this

set_option maxRecDepth 100000 in
set_option maxHeartbeats 1600000 in
theorem packf_head (s d q l : Nat) (m c : Bool) (x : ByteArray) (w : World) (hs : s ≤ 4095) (hd : d ≤ 4095) (hq : q ≤ 65535) (hl : l ≤ 64) (R : Nat × Int) (hR : packR YtoejpngdkcnnhaaGreat.hs [1, s, d, q, l, bitN m, bitN c] = R) :
    Calls Tryz.prog 68 #[.agg #[.int .i64 1, .int .i64 s, .int .i64 d, .int .i64 q, .int .i64 l, .bool m, .bool c, .string x]] w fun e w' => e = .returned (.tuple #[.int .u64 R.1, .int .i64 R.2]) ∧ Below w.heap.size w w' := by
  have H := fun w => headSizes_any w
  have B := fun b w => bit1_any b w
  have P1 := pack_hs1 w (.cells #[.int .i64 1, .int .i64 s, .int .i64 d, .int .i64 q, .int .i64 l, .bool m, .bool c, .string x] 87) s d q l (bitN m) (bitN c) hs hd hq hl (bitN_lt _) (bitN_lt _) R hR
  have P2 := pack_hs2 w (.cells #[.int .i64 1, .int .i64 s, .int .i64 d, .int .i64 q, .int .i64 l, .bool m, .bool c, .string x] 87) s d q l (bitN m) (bitN c) hs hd hq hl (bitN_lt _) (bitN_lt _) R hR
  have e0 : IntKind.u32.wrap 1 = 1 := by decide
  have e1 : IntKind.u32.wrap (s : Int) = s := IntWalk.u32_in _ (by omega)
  have e2 : IntKind.u32.wrap (d : Int) = d := IntWalk.u32_in _ (by omega)
  have e3 : IntKind.u32.wrap (q : Int) = q := IntWalk.u32_in _ (by omega)
  have e4 : IntKind.u32.wrap (l : Int) = l := IntWalk.u32_in _ (by omega)
  have T := below_three w
  clear hR
  obtain ⟨R1, R2⟩ := R
  simp only at P1 P2
  go_enter Tryz.func68, Tryz.ntmps68
  go_wp2_with fail
  go_region_held3 (fun w' => w'.cell? ⟨w.heap.size, 0, none⟩ = some (.int .i64 1) ∧ w'.cell? ⟨w.heap.size, 1, none⟩ = some (.int .i64 s) ∧ w'.cell? ⟨w.heap.size, 2, none⟩ = some (.int .i64 d) ∧ w'.cell? ⟨w.heap.size, 3, none⟩ = some (.int .i64 q) ∧ w'.cell? ⟨w.heap.size, 4, none⟩ = some (.int .i64 l) ∧ w'.cell? ⟨w.heap.size, 5, none⟩ = some (.bool m) ∧ w'.cell? ⟨w.heap.size, 6, none⟩ = some (.bool c))
    (go_keep)
    (first
      | (go_at_call 86; (with_reducible refine (H _).mono ?_); rintro e w' ⟨rfl, rfl⟩)
      | (go_at_call 87; (with_reducible refine (B _ _).mono ?_); rintro e w' ⟨rfl, rfl⟩)
      | (go_at_call 85; (with_reducible refine P1.mono ?_); rintro e w' ⟨rfl, n5, rfl⟩)
      | (go_at_call 85; (with_reducible refine P2.mono ?_); rintro e w' ⟨rfl, n5, rfl⟩))
  all_goals
    go_wp2
    go_ret2
    exact ⟨rfl, below_drewN (T _ _ _) _⟩
end Go.Proofs.YtoejpngdkcnnhaaGreat

namespace Go.Proofs.YtoejpngdkcnnhaaGreat
open Go.RowKit

def vb (l : List Nat) : List Value := l.map fun (n : Nat) => .int .u8 (n : Int)

/-- '[]byte(x)', with the new row under names. -/
theorem bytes_new (W : World) (x : ByteArray) : ∃ cap C fr, (convert 9 136 (.string x)).run Tryz.prog W = .ok (.slice (some ⟨W.heap.size, 0, none⟩) x.size cap) ((W.alloc (.cells C 5 fr)).drew) ∧
    ∀ j, j < x.size → C[j]? = some (.int .u8 ((bytes x).getD j 0 : Nat)) := by
  refine ⟨_, _, _, run_bytes_of_string (P := Tryz.prog) W 9 136 5 x Tryz.underlying9 Tryz.underlying136 Tryz.underlying5, fun j hj => ?_⟩
  have hj' : j < x.data.size := hj
  rw [bytesRow_at x _ j hj']
  unfold bytes
  simp [Array.getElem?_eq_getElem hj']

theorem own_ne {w : World} {B : Nat} {e t : TypeId} {v : Value} {l : List Value} {g : Nat} {C : Array Value} {fr : Nat × Nat} (h : Own e w B v l) (hg : w.heap[g]? = some (.cells C t fr)) (hne : e ≠ t) : v.ownBlock ≠ some g := by
  rcases h.2 with ⟨rfl, _⟩ | ⟨g', cap, cur, rfl, _, hh, _⟩
  · simp [Value.ownBlock]
  · intro he
    have : g' = g := by simpa [Value.ownBlock] using he
    subst this
    rw [hg] at hh
    injection hh with hh
    injection hh with _ ht
    exact hne ht.symm

theorem bytes_lt (x : ByteArray) (j : Nat) : (bytes x).getD j 0 < 256 := by
  by_cases h : j < (bytes x).length
  · have e : (bytes x).getD j 0 = (bytes x)[j] := by simp [h]
    rw [e]
    have hm : (bytes x)[j] ∈ bytes x := List.getElem_mem h
    generalize (bytes x)[j] = v at *
    unfold bytes at hm
    obtain ⟨b, _, hb⟩ := List.mem_map.mp hm
    rw [← hb]
    exact UInt8.toNat_lt b
  · have : (bytes x).getD j 0 = 0 := by simp [Nat.le_of_not_lt h]
    rw [this]; decide

theorem vu_snoc (k n : Nat) (l : List Nat) (j : Nat) (h : j < l.length) : vu (k :: n :: l.take j) ++ [.int .u32 ((l.getD j 0 : Nat) : Int)] = vu (k :: n :: l.take (j + 1)) := by
  have : l.take (j + 1) = l.take j ++ [l.getD j 0] := by
    rw [List.take_succ_eq_append_getElem h]; simp [h]
  rw [this]
  simp [vu]

theorem small_data {k n : Nat} {x : ByteArray} (h1 : k ≤ 3) (h2 : n ≤ 7) : small (k :: n :: bytes x) := by
  intro v hv
  simp only [List.mem_cons] at hv
  rcases hv with rfl | rfl | hv
  · omega
  · omega
  · unfold bytes at hv
    obtain ⟨b, _, rfl⟩ := List.mem_map.mp hv
    have := UInt8.toNat_lt b
    omega

set_option maxRecDepth 100000 in
set_option maxHeartbeats 1600000 in
theorem packf_data (k n : Nat) (x : ByteArray) (w : World) (h1 : 2 ≤ k) (h2 : k ≤ 3) (hn : n = x.size) (hx : n ≤ 6) (R : Nat × Int) (hR : packR (ds n) (k :: n :: bytes x) = R) :
    Calls Tryz.prog 68 #[.agg #[.int .i64 k, .int .i64 0, .int .i64 0, .int .i64 0, .int .i64 0, .bool false, .bool false, .string x]] w fun e w' => e = .returned (.tuple #[.int .u64 R.1, .int .i64 R.2]) ∧ Below w.heap.size w w' := by
  obtain ⟨i0, hi, hz0, hz1, hz2⟩ := info_parts Tryz.info96
  obtain ⟨A, hA⟩ : ∃ A, A = (Obj.cells #[.int .i64 k, .int .i64 0, .int .i64 0, .int .i64 0, .int .i64 0, .bool false, .bool false, .string x] 87) := ⟨_, rfl⟩
  obtain ⟨B, hB⟩ : ∃ B, B = w.heap.size + 1 := ⟨_, rfl⟩
  obtain ⟨cap, C, fr, kc, hC⟩ := bytes_new ((w.alloc A).alloc (.cells #[.int .u32 k, .int .u32 n] 96)) x
  rw [show ((w.alloc A).alloc (.cells #[.int .u32 k, .int .u32 n] 96)).heap.size = w.heap.size + 1 + 1 by simp] at kc
  have o0 : Own 96 ((((w.alloc A).alloc (.cells #[.int .u32 k, .int .u32 n] 96)).alloc (.cells C 5 fr)).drew) B (.slice (some ⟨w.heap.size + 1, 0, none⟩) 2 2) (vu (k :: n :: (bytes x).take 0)) := by
    have := World.ownsRow_lit (e := 96) (size := 1) (base := B) (w.alloc A) #[.int .u32 k, .int .u32 n] 2 (by simp [hB]) (by simp [maxLen]) rfl
    rw [show (w.alloc A).heap.size = w.heap.size + 1 by simp] at this
    exact this.alloc _
  have b0 : Below B (w.alloc A) ((((w.alloc A).alloc (.cells #[.int .u32 k, .int .u32 n] 96)).alloc (.cells C 5 fr)).drew) :=
    below_drew (((Below.refl _ _).alloc (by simp [hB]) _).alloc (by simp [hB]) _)
  have g0 : ((((w.alloc A).alloc (.cells #[.int .u32 k, .int .u32 n] 96)).alloc (.cells C 5 fr)).drew).heap[w.heap.size + 2]? = some (.cells C 5 fr) := by
    have := heap_alloc_new ((w.alloc A).alloc (.cells #[.int .u32 k, .int .u32 n] 96)) (.cells C 5 fr)
    rw [show ((w.alloc A).alloc (.cells #[.int .u32 k, .int .u32 n] 96)).heap.size = w.heap.size + 2 by simp] at this
    exact this
  have c7 : ∀ wr, Below B (w.alloc A) wr → wr.cell? ⟨w.heap.size, 7, none⟩ = some (.string x) := fun wr hb => by
    rw [hb.cell (p := ⟨w.heap.size, 7, none⟩) (by simp [hB]), hA]
    exact World.cell?_alloc_at _ _ _ _ rfl
  have bx : ∀ wr, Below B (w.alloc A) wr → Below w.heap.size w wr := fun wr hb => ((Below.refl _ _).alloc (Nat.le_refl _) _).trans (hb.mono (by omega))
  have hbl : (bytes x).length = n := by rw [bytes_len, hn]
  have hsm : small (k :: n :: bytes x) := small_data h2 (by omega)
  have O0 : Hid (Own 96 ((((w.alloc A).alloc (.cells #[.int .u32 k, .int .u32 n] 96)).alloc (.cells C 5 fr)).drew) B (.slice (some ⟨w.heap.size + 1, 0, none⟩) 2 2) (vu (k :: n :: (bytes x).take 0))) := o0
  have B0 : Hid (Below B (w.alloc A) ((((w.alloc A).alloc (.cells #[.int .u32 k, .int .u32 n] 96)).alloc (.cells C 5 fr)).drew)) := b0
  have G0 : Hid (((((w.alloc A).alloc (.cells #[.int .u32 k, .int .u32 n] 96)).alloc (.cells C 5 fr)).drew).heap[w.heap.size + 2]? = some (.cells C 5 fr)) := g0
  have HC : Hid (∀ j, j < x.size → C[j]? = some (.int .u8 ((bytes x).getD j 0 : Nat))) := hC
  have H7 : Hid (∀ wr, Below B (w.alloc A) wr → wr.cell? ⟨w.heap.size, 7, none⟩ = some (.string x)) := c7
  have HX : Hid (∀ wr, Below B (w.alloc A) wr → Below w.heap.size w wr) := bx
  have HL : Hid ((bytes x).length = n) := hbl
  have HN : Hid (n = x.size) := hn
  have HS : Hid (small (k :: n :: bytes x)) := hsm
  have HR : Hid (packR (ds n) (k :: n :: bytes x) = R) := hR
  have HB : Hid (B = w.heap.size + 1) := hB
  have HA : Hid (A = (Obj.cells #[.int .i64 k, .int .i64 0, .int .i64 0, .int .i64 0, .int .i64 0, .bool false, .bool false, .string x] 87)) := hA
  have hn' : x.size = n := hn.symm
  have t1 : ((k : Int) == 1) = false := by simp; omega
  clear o0 b0 g0 hC c7 bx hbl hn hsm hR hB
  subst hA
  rw [hn'] at kc
  go_enter Tryz.func68, Tryz.ntmps68
  go_wp2
  go_loopw [4, 48] (fun v i wr => ∃ j : Nat, j ≤ n ∧ i = .int .i64 j ∧ Own 96 wr B v (vu (k :: n :: (bytes x).take j)) ∧ Below B (w.alloc (Obj.cells #[.int .i64 k, .int .i64 0, .int .i64 0, .int .i64 0, .int .i64 0, .bool false, .bool false, .string x] 87)) wr ∧ Hid (wr.heap[w.heap.size + 2]? = some (.cells C 5 fr))) (fun _ i _ => n - (intOf i).toNat)
  case atStart => exact ⟨0, Nat.zero_le _, rfl, O0.out, B0.out, G0⟩
  case round =>
    obtain ⟨j, hj, rfl, hown, hbel, hG⟩ := hrel
    by_cases hlt : j < n
    · have hsz : B ≤ wr.heap.size := by have := hbel.size; have := HB.out; simp at *; omega
      have hne := own_ne hown hG.out (by decide)
      have hglt : w.heap.size + 2 < wr.heap.size := lt_of_heap hG.out
      have hc : wr.cell? ⟨w.heap.size + 1 + 1, 0 + j, none⟩ = some (.int .u8 ((bytes x).getD j 0 : Nat)) := by
        rw [cell_of (b := w.heap.size + 1 + 1) hG.out]
        rw [Nat.zero_add]
        exact HC.out j (by have := HN.out; omega)
      rw [Nat.zero_add] at hc
      have hb256 := bytes_lt x j
      have he := vu_snoc k n (bytes x) j (by have := HL.out; omega)
      have hll : (vu (k :: n :: (bytes x).take j)).length = j + 2 := by simp [vu]; have := HL.out; omega
      obtain ⟨b, hb⟩ : ∃ b, b = (bytes x).getD j 0 := ⟨_, rfl⟩
      rw [← hb] at hc hb256 he
      have HE : Hid (vu (k :: n :: (bytes x).take j) ++ [.int .u32 (b : Int)] = vu (k :: n :: (bytes x).take (j + 1))) := he
      have HLL : Hid ((vu (k :: n :: (bytes x).take j)).length = j + 2) := hll
      have HNE : Hid (_ ≠ some (w.heap.size + 2)) := hne
      clear he hll hb hne
      generalize vu (k :: n :: (bytes x).take j) = L at *
      go_wp2_with (at_builtin; refine wpList_append_own _ rfl _ _ 111 rfl B 96 i0 (.int .u32 0) 1 4 Tryz.underlying111 hi hz0 hz1 hz2 rfl (by decide) _ _ _ rfl (World.ownsRow.alloc hown _) ⟨wr.heap.size, 0, none⟩ 1 1 [.int .u32 (b : Int)] rfl rfl ?c1 ?c2 ?c3 ?c4 ?c5 ?_)
      case c1 =>
        intro j u hj
        match j, hj with
        | 0, hj => simp at hj; subst hj; exact (World.cell?_alloc_at _ _ _ _ rfl).trans rfl
      case c2 => intro u hu; simp at hu; subst hu; rfl
      case c3 => have := HLL.out; unfold maxLen; omega
      case c4 => have := HLL.out; omega
      case c5 => simp; omega
      · intro v' w1 hown' hgrow _
        have hown2 : Own 96 w1 B v' (vu (k :: n :: (bytes x).take (j + 1))) := by rw [← HE.out]; exact Own.snoc hown'
        have hbel2 : Below B (w.alloc (Obj.cells #[.int .i64 k, .int .i64 0, .int .i64 0, .int .i64 0, .int .i64 0, .bool false, .bool false, .string x] 87)) w1 := Below.grown (hbel.alloc (by simpa using hsz) _) hgrow (by simp; omega) (fun q hq => (World.ownsRow.lt hown q hq).1)
        have hG2 : Hid (w1.heap[w.heap.size + 2]? = some (.cells C 5 fr)) := by
          show _ = _
          rw [hgrow.block _ (by simp; omega) (fun h => HNE.out h.symm), Below.heap_alloc _ _ _ hglt]
          exact hG.out
        clear hown' hgrow hown hbel hc hG
        go_wp2
        go_roundw
        case rel => exact ⟨j + 1, by omega, by go_num, hown2, hbel2, hG2⟩
        case measure => simp [intOf]; omega
    · obtain rfl : j = n := by omega
      rw [show (bytes x).take j = bytes x from List.take_of_length_le (by have := HL.out; omega)] at hown
      obtain ⟨a2, cap2, rfl, _, _, hrd⟩ := hown.rd
      have hl2 : (vu (k :: j :: bytes x)).length = j + 2 := by simp [vu]; have := HL.out; omega
      rw [hl2]
      have D := dataSizes_any j (by omega) wr
      have c7 := H7.out _ hbel
      have HBl : Hid (Below B _ wr) := hbel
      have HRd : Hid (Rd wr a2 (vu (k :: j :: bytes x))) := hrd
      have HL2 : Hid ((bytes x).length = j) := HL.out
      clear hown hl2 hrd hG hbel
      go_wp2_with fail
      go_at_call 88
      refine D.mono ?_
      rintro e w2 ⟨v3, rfl, ho3, hb3⟩
      obtain ⟨a3, cap3, rfl, _, _, hrd3⟩ := ho3.rd
      have hl3 : (vi (ds j)).length = j + 2 := by simp [vi, ds]
      rw [hl3]
      have P := pack_any w2 a3 a2 (j + 2) (j + 2) cap3 cap2 (ds j) (k :: j :: bytes x) (by simp [ds]) (by simp; have := HL2.out; omega) (by omega) (by omega) hrd3 (HRd.out.below hb3) HS.out
      rw [HR.out] at P
      have HBF : Hid (Below w.heap.size w w2) := HX.out _ (HBl.out.trans (hb3.mono (by have := HBl.out.size; have := HB.out; simp at *; omega)))
      clear ho3 hb3 hrd3 hl3 D
      obtain ⟨R1, R2⟩ := R
      simp only at P
      go_wp2_with (go_at_call 85; (with_reducible refine P.mono ?_); rintro e w' ⟨rfl, n5, rfl⟩)
      go_ret2
      exact ⟨rfl, below_drewN HBF.out _⟩
end Go.Proofs.YtoejpngdkcnnhaaGreat

namespace Go.Proofs.YtoejpngdkcnnhaaGreat
open Go.RowKit

theorem fpack_any (f : Fl) (h : f.rightB = true) (w : World) :
    Calls Tryz.prog 68 #[flv f] w fun e w' => e = .returned (.tuple #[.int .u64 ((packR f.sizes f.vals).1 : Nat), .int .i64 0]) ∧ Below w.heap.size w w' := by
  have h0 := right_pack h
  obtain ⟨k, s, d, q, l, m, c, x⟩ := f
  rcases right_forms h with ⟨h1, a1, a2, a3, a4, a5, a6, a7, a8, a9⟩ | ⟨hk2, b1, b2, b3, b4, b5, b6, hx⟩
  · simp only at h1 a1 a2 a3 a4 a5 a6 a7 a8 a9
    subst h1
    obtain ⟨s, rfl⟩ := Int.eq_ofNat_of_zero_le a1
    obtain ⟨d, rfl⟩ := Int.eq_ofNat_of_zero_le a3
    obtain ⟨q, rfl⟩ := Int.eq_ofNat_of_zero_le a5
    obtain ⟨l, rfl⟩ := Int.eq_ofNat_of_zero_le a7
    have e1 : (Fl.mk 1 s d q l m c x).sizes = YtoejpngdkcnnhaaGreat.hs := by unfold Fl.sizes; rw [if_pos rfl]
    have e2 : (Fl.mk 1 s d q l m c x).vals = [1, s, d, q, l, bitN m, bitN c] := by unfold Fl.vals; rw [if_pos rfl]; rfl
    rw [e1, e2] at h0 ⊢
    have := packf_head s d q l m c x w (by omega) (by omega) (by omega) (by omega) _ rfl
    rw [h0] at this
    exact this
  · simp only at hk2 b1 b2 b3 b4 b5 b6 hx
    subst b1 b2 b3 b4 b5 b6
    obtain ⟨k, rfl⟩ := Int.eq_ofNat_of_zero_le (a := k) (by omega)
    have e1 : (Fl.mk k 0 0 0 0 false false x).sizes = ds x.size := by unfold Fl.sizes; rw [if_neg (by show ¬ (k : Int) = 1; omega)]
    have e2 : (Fl.mk k 0 0 0 0 false false x).vals = k :: x.size :: bytes x := by unfold Fl.vals; rw [if_neg (by show ¬ (k : Int) = 1; omega)]; rfl
    rw [e1, e2] at h0 ⊢
    have := packf_data k x.size x w (by omega) (by omega) rfl hx _ rfl
    rw [h0] at this
    exact this

set_option maxHeartbeats 800000 in
theorem fwrite_any (f : Fl) (w : World) : Calls Tryz.prog 48 #[flv f] w fun e w' => e = .returned (.tuple #[.int .u64 (f.wordR.1 : Nat), .int .i64 f.wordR.2]) ∧ Below w.heap.size w w' := by
  have hR := fright_any f (w.alloc (.cells (flc f) 87))
  rw [show (w.alloc (.cells (flc f) 87)).heap.size = w.heap.size + 1 by simp] at hR
  have HC : Hid (∀ w1, Below (w.heap.size + 1) (w.alloc (.cells (flc f) 87)) w1 → ∀ j, w1.cell? ⟨w.heap.size, j, none⟩ = (flc f)[j]?) := fun w1 h j => flit_cells f h j
  have B0 : Hid (∀ w1, Below (w.heap.size + 1) (w.alloc (.cells (flc f) 87)) w1 → Below w.heap.size w w1) := fun w1 h => below_box _ _ h
  by_cases h : f.rightB = true
  · have P := fun w => fpack_any f h w
    have e1 : f.wordR = (sealN (packR f.sizes f.vals).1, 0) := by unfold Fl.wordR; rw [if_pos h]; rfl
    have hlt := packR_lt f.sizes f.vals
    rw [e1]
    rw [h] at hR
    clear e1 h
    generalize (packR f.sizes f.vals).1 = p at *
    have S := fun w => seal_any p hlt w
    generalize sealN p = sp at *
    simp only [flv, flc] at *
    go_enter Tryz.func48, Tryz.ntmps48
    go_wp2_with fail
    go_at_call 67
    refine hR.mono ?_
    rintro e w1 ⟨rfl, hb⟩
    have hc := HC.out _ hb
    have c0 := hc 0
    have c1 := hc 1
    have c2 := hc 2
    have c3 := hc 3
    have c4 := hc 4
    have c5 := hc 5
    have c6 := hc 6
    have c7 := hc 7
    have HB : Hid (Below w.heap.size w w1) := B0.out _ hb
    have HZ : Hid (w.heap.size ≤ w1.heap.size) := HB.out.size
    clear hb hc hR
    simp at c0 c1 c2 c3 c4 c5 c6 c7
    go_wp2_with fail
    go_at_call 68
    refine (P _).mono ?_
    rintro e w2 ⟨rfl, hb2⟩
    have HB2 : Hid (Below w.heap.size w w2) := HB.out.trans (hb2.mono HZ.out)
    clear hb2 P c0 c1 c2 c3 c4 c5 c6 c7
    go_wp2_with (go_at_call 69; (with_reducible refine (S _).mono ?_); rintro e w' ⟨rfl, rfl⟩)
    go_ret2
    exact ⟨rfl, HB2.out⟩
  · have h' : f.rightB = false := by simpa using h
    have e1 : f.wordR = (0, 1) := by unfold Fl.wordR; rw [if_neg h]
    rw [e1]
    rw [h'] at hR
    clear e1 h h'
    simp only [flv, flc] at *
    go_enter Tryz.func48, Tryz.ntmps48
    go_wp2_with fail
    go_at_call 67
    refine hR.mono ?_
    rintro e w1 ⟨rfl, hb⟩
    have HB : Hid (Below w.heap.size w w1) := B0.out _ hb
    clear hb hR
    go_wp2
    go_ret2
    exact ⟨rfl, HB.out⟩
end Go.Proofs.YtoejpngdkcnnhaaGreat

namespace Go.Proofs.YtoejpngdkcnnhaaGreat
open Go.RowKit

theorem below_two (w : World) (a b : Obj) : Below w.heap.size w ((w.alloc a).alloc b) := ((Below.refl _ _).alloc (Nat.le_refl _) _).alloc (by simp) _

theorem rpack_hs (X : World) (s d q l a b : Nat) (hs : s ≤ 4095) (hd : d ≤ 4095) (hq : q ≤ 65535) (hl : l ≤ 64) (ha : a < 2) (hb : b < 2) (p : Nat) (hR : packR YtoejpngdkcnnhaaGreat.hs [1, s, d, q, l, a, b] = (p, 0)) :
    Calls Tryz.prog 53 #[.slice (some ⟨X.heap.size, 0, none⟩) 7 7, .slice (some ⟨X.heap.size + 1, 0, none⟩) 7 7] ((X.alloc hsO).alloc (hvO s d q l a b)).drew fun e w' =>
      e = .returned (.tuple #[.int .u64 p, .int .i64 0]) ∧ Drew ((X.alloc hsO).alloc (hvO s d q l a b)).drew w' := by
  have r1 : Rd ((X.alloc hsO).alloc (hvO s d q l a b)).drew (some ⟨X.heap.size, 0, none⟩) (vi YtoejpngdkcnnhaaGreat.hs) := (rd_new X (vi YtoejpngdkcnnhaaGreat.hs) 3).alloc (hvO s d q l a b)
  have r2 : Rd ((X.alloc hsO).alloc (hvO s d q l a b)).drew (some ⟨X.heap.size + 1, 0, none⟩) (vu [1, s, d, q, l, a, b]) := by
    have := rd_new (X.alloc hsO) (vu [1, s, d, q, l, a, b]) 96
    rw [show (X.alloc hsO).heap.size = X.heap.size + 1 by simp] at this
    exact this
  have := rpack_any _ _ _ 7 7 7 7 YtoejpngdkcnnhaaGreat.hs [1, s, d, q, l, a, b] rfl rfl (by omega) (by omega) r1 r2 (small_head hs hd hq hl ha hb)
  rw [hR] at this
  exact this

set_option maxRecDepth 100000 in
set_option maxHeartbeats 1600000 in
theorem rwrite_head (s d q l : Nat) (m c : Bool) (x : ByteArray) (w : World) (hs : s ≤ 4095) (hd : d ≤ 4095) (hq : q ≤ 65535) (hl : l ≤ 64) (h : (Fl.mk 1 s d q l m c x).rightB = true) (p : Nat) (hp : packR YtoejpngdkcnnhaaGreat.hs [1, s, d, q, l, bitN m, bitN c] = (p, 0)) :
    Calls Tryz.prog 33 #[flv ⟨1, s, d, q, l, m, c, x⟩] w fun e w' => e = .returned (.tuple #[.int .u64 (sealN p), .int .i64 0]) ∧ Below w.heap.size w w' := by
  have hR := rfright_any ⟨1, s, d, q, l, m, c, x⟩ (w.alloc (.cells (flc ⟨1, s, d, q, l, m, c, x⟩) 87))
  rw [show (w.alloc (.cells (flc ⟨1, s, d, q, l, m, c, x⟩) 87)).heap.size = w.heap.size + 1 by simp] at hR
  have HC : Hid (∀ w1, Below (w.heap.size + 1) (w.alloc (.cells (flc ⟨1, s, d, q, l, m, c, x⟩) 87)) w1 → ∀ j, w1.cell? ⟨w.heap.size, j, none⟩ = (flc ⟨1, s, d, q, l, m, c, x⟩)[j]?) := fun w1 h j => flit_cells _ h j
  have B0 : Hid (∀ w1, Below (w.heap.size + 1) (w.alloc (.cells (flc ⟨1, s, d, q, l, m, c, x⟩) 87)) w1 → Below w.heap.size w w1) := fun w1 h => below_box _ _ h
  rw [h] at hR
  have O := fun b w => one_any b w
  have P := fun X => rpack_hs X s d q l (bitN m) (bitN c) hs hd hq hl (bitN_lt _) (bitN_lt _) p hp
  have hplt := packR_lt YtoejpngdkcnnhaaGreat.hs [1, s, d, q, l, bitN m, bitN c]
  rw [hp] at hplt
  have S := fun w => rseal_any p hplt w
  generalize sealN p = sp at *
  clear h hp
  have e1 : IntKind.u32.wrap (s : Int) = s := IntWalk.u32_in _ (by omega)
  have e2 : IntKind.u32.wrap (d : Int) = d := IntWalk.u32_in _ (by omega)
  have e3 : IntKind.u32.wrap (q : Int) = q := IntWalk.u32_in _ (by omega)
  have e4 : IntKind.u32.wrap (l : Int) = l := IntWalk.u32_in _ (by omega)
  simp only [flv, flc] at *
  go_enter Tryz.func33, Tryz.ntmps33
  go_wp2_with fail
  go_at_call 51
  refine hR.mono ?_
  rintro e w1 ⟨rfl, hb⟩
  have hc := HC.out _ hb
  have c0 := hc 0
  have c1 := hc 1
  have c2 := hc 2
  have c3 := hc 3
  have c4 := hc 4
  have c5 := hc 5
  have c6 := hc 6
  have c7 := hc 7
  have HB : Hid (Below w.heap.size w w1) := B0.out _ hb
  have hz : w.heap.size < w1.heap.size := by have := hb.size; simp at this; omega
  clear hb hc hR
  simp at c0 c1 c2 c3 c4 c5 c6 c7
  go_wp2_with fail
  go_region_held3 (fun w' => w'.cell? ⟨w.heap.size, 1, none⟩ = some (.int .i64 s) ∧ w'.cell? ⟨w.heap.size, 2, none⟩ = some (.int .i64 d) ∧ w'.cell? ⟨w.heap.size, 3, none⟩ = some (.int .i64 q) ∧ w'.cell? ⟨w.heap.size, 4, none⟩ = some (.int .i64 l) ∧ w'.cell? ⟨w.heap.size, 5, none⟩ = some (.bool m) ∧ w'.cell? ⟨w.heap.size, 6, none⟩ = some (.bool c))
    (go_keep)
    (first
      | (go_at_call 52; (with_reducible refine (O _ _).mono ?_); rintro e w' ⟨rfl, rfl⟩))
  all_goals
    go_wp2_with (first
      | (go_at_call 53; (with_reducible refine (P w1).mono ?_); rintro e w' ⟨rfl, n5, rfl⟩)
      | (go_at_call 54; (with_reducible refine (S _).mono ?_); rintro e w' ⟨rfl, rfl⟩))
    go_ret2
    exact ⟨rfl, below_drewN (HB.out.trans ((below_two w1 _ _).mono (by omega))) _⟩
end Go.Proofs.YtoejpngdkcnnhaaGreat

namespace Go.Proofs.YtoejpngdkcnnhaaGreat
open Go.RowKit

/-- What an append of the call's own leaves as it was. -/
def Kept (e : TypeId) (B : Nat) (w w' : World) : Prop :=
  w.heap.size ≤ w'.heap.size ∧ (∀ A, Below B A w → Below B A w') ∧
  (∀ (t : TypeId) (v : Value) (l : List Value), t ≠ e → Own t w B v l → Own t w' B v l) ∧
  (∀ (g : Nat) (C : Array Value) (t : TypeId) (fr : Nat × Nat), t ≠ e → w.heap[g]? = some (Obj.cells C t fr) → w'.heap[g]? = some (Obj.cells C t fr))

theorem own_two {w : World} {B : Nat} {e t : TypeId} {v u : Value} {l k : List Value} (h : Own e w B v l) (h' : Own t w B u k) (hne : t ≠ e) : u.ownBlock = none ∨ u.ownBlock ≠ v.ownBlock := by
  rcases h'.2 with ⟨rfl, _⟩ | ⟨g', cap, cur, rfl, _, hh, _⟩
  · exact Or.inl rfl
  · refine Or.inr fun c => own_ne h hh (fun x => hne x.symm) ?_
    rw [← c]; rfl

theorem wpList_app_one {ops : Array Oper} {rest : List Oper} {o : Oper} {a : Act} {Q : Exit → Act → World → Prop} (hgd : o.guard = none) (s x : Operand) (t e : TypeId) (i : TypeInfo) (z : Value) (bytes : Nat)
    (ho : o.op = .call { callee := .builtin .append, args := #[s, x], argTypes := #[t, t] })
    (ht : Tryz.prog.underlying t = some (.slice e)) (hi : Tryz.prog.info? e = some i) (hz : i.zero = some z) (h1 : i.size = 1) (hby : i.bytes = bytes) (hzs : z.cells.size = 1) (hb8 : bytes ≤ 8)
    (B : Nat) (w : World) (v : Value) (L : List Value) (u : Value) (hs : a.eval s = v) (hown : Own e w B v L) (hx : a.eval x = .slice (some ⟨w.heap.size, 0, none⟩) 1 1) (hu : u.oneCell' = true)
    (hlen : L.length ≤ 1000000) (hbase : B ≤ w.heap.size)
    (h : ∀ v' w', Own e w' B v' (L ++ [u]) → Kept e B w w' → wpList Tryz.prog ops Q rest (a.put o.dst v') w') :
    wpList Tryz.prog ops Q (o :: rest) a (w.alloc (.cells #[u] e)) := by
  refine wpList_append_own _ hgd s x t ho B e i z 1 bytes ht hi hz h1 hby hzs (by decide) v L.length L hs (World.ownsRow.alloc hown _) ⟨w.heap.size, 0, none⟩ 1 1 [u] hx rfl ?_ ?_ ?_ ?_ ?_ ?_
  · intro j y hj
    match j, hj with
    | 0, hj => simp at hj; subst hj; exact (World.cell?_alloc_at _ _ _ _ rfl).trans rfl
  · intro y hy; simp at hy; subst hy; exact hu
  · unfold maxLen; omega
  · have : (L.length + 1) * bytes ≤ (L.length + 1) * 8 := Nat.mul_le_mul_left _ hb8
    omega
  · simp; omega
  · intro v' w' hown' hgrow _
    have hsz : (w.alloc (.cells #[u] e)).heap.size ≤ w'.heap.size := (hgrow.size : _)
    simp at hsz
    refine h v' w' (Own.snoc hown') ⟨by omega, fun A hA => ?_, fun t' v2 l2 hne h2 => ?_, fun g C t' fr hne hg => ?_⟩
    · exact Below.grown (hA.alloc hbase _) hgrow (by simp; omega) (fun q hq => (World.ownsRow.lt hown q hq).1)
    · exact World.ownsRow.kept (World.ownsRow.alloc h2 _) hgrow (own_two hown h2 hne)
    · rw [hgrow.block g (by have := lt_of_heap hg; simp; omega) (fun c => own_ne hown hg (fun x => hne x.symm) c.symm), Below.heap_alloc _ _ _ (lt_of_heap hg)]
      exact hg
end Go.Proofs.YtoejpngdkcnnhaaGreat

namespace Go.Proofs.YtoejpngdkcnnhaaGreat
open Go.RowKit

theorem vi_snoc (j : Nat) : vi (ds j) ++ [.int .i64 8] = vi (ds (j + 1)) := by
  unfold vi ds
  simp only [List.map_cons, List.cons_append, List.map_replicate]
  rw [List.replicate_succ']

/-- A byte of a string. -/
theorem byte_at (x : ByteArray) (j : Nat) (h : j < x.size) : x[j].toNat = (bytes x).getD j 0 := by
  unfold bytes
  have h' : j < x.data.size := h
  simp [Array.getElem?_eq_getElem h']
  rfl

theorem start_four (w1 : World) (a b : Obj) (k n : Nat) :
    Own 3 ((((w1.alloc a).alloc b).alloc (.cells #[.int .i64 2, .int .i64 3] 3)).alloc (.cells #[.int .u32 k, .int .u32 n] 96)).drew w1.heap.size (.slice (some ⟨w1.heap.size + 1 + 1, 0, none⟩) 2 2) (vi (ds 0)) ∧
    Own 96 ((((w1.alloc a).alloc b).alloc (.cells #[.int .i64 2, .int .i64 3] 3)).alloc (.cells #[.int .u32 k, .int .u32 n] 96)).drew w1.heap.size (.slice (some ⟨w1.heap.size + 1 + 1 + 1, 0, none⟩) 2 2) (vu [k, n]) ∧
    Below w1.heap.size w1 ((((w1.alloc a).alloc b).alloc (.cells #[.int .i64 2, .int .i64 3] 3)).alloc (.cells #[.int .u32 k, .int .u32 n] 96)).drew := by
  refine ⟨?_, ?_, below_drew ((((((Below.refl _ _).alloc (Nat.le_refl _) _).alloc (by simp) _).alloc (by simp; omega) _).alloc (by simp; omega) _))⟩
  · have := (World.ownsRow_lit (e := 3) (size := 1) (base := w1.heap.size) ((w1.alloc a).alloc b) #[.int .i64 2, .int .i64 3] 2 (by simp; omega) (by simp [maxLen]) rfl).alloc (.cells #[.int .u32 k, .int .u32 n] 96)
    rw [show ((w1.alloc a).alloc b).heap.size = w1.heap.size + 1 + 1 by simp] at this
    exact this
  · have := World.ownsRow_lit (e := 96) (size := 1) (base := w1.heap.size) (((w1.alloc a).alloc b).alloc (.cells #[.int .i64 2, .int .i64 3] 3)) #[.int .u32 k, .int .u32 n] 2 (by simp; omega) (by simp [maxLen]) rfl
    rw [show (((w1.alloc a).alloc b).alloc (.cells #[.int .i64 2, .int .i64 3] 3)).heap.size = w1.heap.size + 1 + 1 + 1 by simp] at this
    exact this

set_option maxRecDepth 100000 in
set_option maxHeartbeats 1600000 in
theorem rwrite_data (k : Nat) (x : ByteArray) (w : World) (h1 : 2 ≤ k) (h2 : k ≤ 3) (hx : x.size ≤ 6) (h : (Fl.mk k 0 0 0 0 false false x).rightB = true) (p : Nat) (hp : packR (ds x.size) (k :: x.size :: bytes x) = (p, 0)) :
    Calls Tryz.prog 33 #[flv ⟨k, 0, 0, 0, 0, false, false, x⟩] w fun e w' => e = .returned (.tuple #[.int .u64 (sealN p), .int .i64 0]) ∧ Below w.heap.size w w' := by
  obtain ⟨i0, hi, hz0, hz1', hz2'⟩ := info_parts Tryz.info96
  obtain ⟨j0, ki, kz0, kz1, kz2⟩ := info_parts Tryz.info3
  have hR := rfright_any ⟨k, 0, 0, 0, 0, false, false, x⟩ (w.alloc (.cells (flc ⟨k, 0, 0, 0, 0, false, false, x⟩) 87))
  rw [show (w.alloc (.cells (flc ⟨k, 0, 0, 0, 0, false, false, x⟩) 87)).heap.size = w.heap.size + 1 by simp] at hR
  have HC : Hid (∀ w1, Below (w.heap.size + 1) (w.alloc (.cells (flc ⟨k, 0, 0, 0, 0, false, false, x⟩) 87)) w1 → ∀ j, w1.cell? ⟨w.heap.size, j, none⟩ = (flc ⟨k, 0, 0, 0, 0, false, false, x⟩)[j]?) := fun w1 h j => flit_cells _ h j
  have B0 : Hid (∀ w1, Below (w.heap.size + 1) (w.alloc (.cells (flc ⟨k, 0, 0, 0, 0, false, false, x⟩) 87)) w1 → Below w.heap.size w w1) := fun w1 h => below_box _ _ h
  rw [h] at hR
  have O := fun b w => one_any b w
  have hplt := packR_lt (ds x.size) (k :: x.size :: bytes x)
  rw [hp] at hplt
  have S := fun w => rseal_any p hplt w
  generalize sealN p = sp at *
  have HS : Hid (small (k :: x.size :: bytes x)) := small_data h2 (by omega)
  have HL : Hid ((bytes x).length = x.size) := bytes_len x
  have HP : Hid (packR (ds x.size) (k :: x.size :: bytes x) = (p, 0)) := hp
  clear h hp
  have e0 : IntKind.u32.wrap (0 : Int) = 0 := by decide
  have t1 : ((k : Int) == 1) = false := by simp; omega
  have t2 : ((k : Int) != 1) = true := by simp; omega
  simp only [flv, flc] at *
  go_enter Tryz.func33, Tryz.ntmps33
  go_wp2_with fail
  go_at_call 51
  refine hR.mono ?_
  rintro e w1 ⟨rfl, hb⟩
  have hc := HC.out _ hb
  have c0 := hc 0
  have c1 := hc 1
  have c2 := hc 2
  have c3 := hc 3
  have c4 := hc 4
  have c5 := hc 5
  have c6 := hc 6
  have c7 := hc 7
  have HB : Hid (Below w.heap.size w w1) := B0.out _ hb
  have hz : w.heap.size < w1.heap.size := by have := hb.size; simp at this; omega
  have hz1 : w.heap.size < w1.heap.size + 1 := by omega
  have hz2 : w.heap.size < w1.heap.size + 1 + 1 := by omega
  have hz3 : w.heap.size < w1.heap.size + 1 + 1 + 1 := by omega
  clear hb hc hR
  simp at c0 c1 c2 c3 c4 c5 c6 c7
  go_wp2_with fail
  go_region_held3 (fun w' => w'.cell? ⟨w.heap.size, 1, none⟩ = some (.int .i64 0) ∧ w'.cell? ⟨w.heap.size, 2, none⟩ = some (.int .i64 0) ∧ w'.cell? ⟨w.heap.size, 3, none⟩ = some (.int .i64 0) ∧ w'.cell? ⟨w.heap.size, 4, none⟩ = some (.int .i64 0) ∧ w'.cell? ⟨w.heap.size, 5, none⟩ = some (.bool false) ∧ w'.cell? ⟨w.heap.size, 6, none⟩ = some (.bool false))
    (go_keep)
    (first
      | (go_at_call 52; (with_reducible refine (O _ _).mono ?_); rintro e w' ⟨rfl, rfl⟩))
  all_goals
    go_wp2_with fail
  obtain ⟨s1, s2, s3⟩ := start_four w1 hsO (hvO 0 0 0 0 (bitN false) (bitN false)) k x.size
  have S1 : Hid (Own 3 _ w1.heap.size _ (vi (ds 0))) := s1
  have S2 : Hid (Own 96 _ w1.heap.size _ (vu (k :: x.size :: (bytes x).take 0))) := s2
  have S3 : Hid (Below w1.heap.size w1 _) := s3
  clear s1 s2 s3
  go_loopw [4, 5, 6] (fun v1 v2 i wr => ∃ j : Nat, j ≤ x.size ∧ i = .int .i64 j ∧ Own 3 wr w1.heap.size v1 (vi (ds j)) ∧ Own 96 wr w1.heap.size v2 (vu (k :: x.size :: (bytes x).take j)) ∧ Below w1.heap.size w1 wr) (fun _ _ i _ => x.size - (intOf i).toNat)
  case atStart => exact ⟨0, Nat.zero_le _, rfl, S1.out, S2.out, S3.out⟩
  case round =>
    obtain ⟨j, hj, rfl, own1, own2, hbel⟩ := hrel
    have d7 := (hbel.cell (p := ⟨w.heap.size, 7, none⟩) hz).trans c7
    by_cases hlt : j < x.size
    · have hsz : w1.heap.size ≤ wr.heap.size := hbel.size
      have hby := byte_at x j hlt
      have hb256 := bytes_lt x j
      have he1 := vi_snoc j
      have he2 := vu_snoc k x.size (bytes x) j (by have := HL.out; omega)
      have hl1 : (vi (ds j)).length ≤ 1000000 := by simp [vi, ds]; omega
      have hl2 : (vu (k :: x.size :: (bytes x).take j)).length ≤ 1000000 := by simp [vu]; have := HL.out; omega
      have HE1 : Hid (vi (ds j) ++ [.int .i64 8] = vi (ds (j + 1))) := he1
      obtain ⟨b, hb⟩ : ∃ b, b = (bytes x).getD j 0 := ⟨_, rfl⟩
      rw [← hb] at hby hb256 he2
      have HE2 : Hid (vu (k :: x.size :: (bytes x).take j) ++ [.int .u32 (b : Int)] = vu (k :: x.size :: (bytes x).take (j + 1))) := he2
      clear he1 he2 hb
      generalize vi (ds j) = L1 at *
      generalize vu (k :: x.size :: (bytes x).take j) = L2 at *
      go_wp2_with (first
        | (at_builtin; refine wpList_app_one rfl (.tmp 51) (.tmp 52) 109 3 j0 (.int .i64 0) 8 rfl Tryz.underlying109 ki kz0 kz1 kz2 rfl (by decide) w1.heap.size wr _ _ (.int .i64 8) rfl own1 rfl rfl hl1 hsz ?_; intro v1' wa o1a ka; have ba := ka.2.1 _ hbel; have o2a := ka.2.2.1 96 _ _ (by decide) own2; have za := Nat.le_trans hsz ka.1; have d7a := (ba.cell (p := ⟨w.heap.size, 7, none⟩) hz).trans c7; clear ka own1 own2 hbel d7)
        | (at_builtin; refine wpList_app_one rfl (.tmp 54) (.tmp 60) 111 96 i0 (.int .u32 0) 4 rfl Tryz.underlying111 hi hz0 hz1' hz2' rfl (by decide) w1.heap.size wa _ _ (.int .u32 (b : Int)) rfl o2a rfl rfl hl2 za ?_; intro v2' wb o2b kb; have bb := kb.2.1 _ ba; have o1b := kb.2.2.1 3 _ _ (by decide) o1a; clear kb o1a o2a ba))
      rw [HE1.out] at o1b
      rw [HE2.out] at o2b
      go_roundw
      case rel => exact ⟨j + 1, by omega, by go_num, o1b, o2b, bb⟩
      case measure => simp [intOf]; omega
    · obtain rfl : j = x.size := by omega
      rw [show (bytes x).take x.size = bytes x from List.take_of_length_le (by have := HL.out; omega)] at own2
      obtain ⟨a1, cap1, rfl, _, _, hrd1⟩ := own1.rd
      obtain ⟨a2, cap2, rfl, _, _, hrd2⟩ := own2.rd
      have hl1 : (vi (ds x.size)).length = x.size + 2 := by simp [vi, ds]
      have hl2 : (vu (k :: x.size :: bytes x)).length = x.size + 2 := by simp [vu]; exact HL.out
      rw [hl1, hl2]
      have P := rpack_any wr a1 a2 (x.size + 2) (x.size + 2) cap1 cap2 (ds x.size) (k :: x.size :: bytes x) (by simp [ds]) (by simp; have := HL.out; omega) (by omega) (by omega) hrd1 hrd2 HS.out
      rw [HP.out] at P
      have HBF : Hid (Below w.heap.size w wr) := HB.out.trans (hbel.mono (by omega))
      clear own1 own2 hrd1 hrd2 hl1 hl2 hbel
      go_wp2_with (first
        | (go_at_call 53; (with_reducible refine P.mono ?_); rintro e w' ⟨rfl, n5, rfl⟩)
        | (go_at_call 54; (with_reducible refine (S _).mono ?_); rintro e w' ⟨rfl, rfl⟩))
      go_ret2
      exact ⟨rfl, below_drewN HBF.out _⟩
end Go.Proofs.YtoejpngdkcnnhaaGreat

namespace Go.Proofs.YtoejpngdkcnnhaaGreat
open Go.RowKit

theorem rwrite_any (f : Fl) (w : World) : Calls Tryz.prog 33 #[flv f] w fun e w' => e = .returned (.tuple #[.int .u64 (f.wordR.1 : Nat), .int .i64 f.wordR.2]) ∧ Below w.heap.size w w' := by
  by_cases h : f.rightB = true
  · have e0 : f.wordR = (sealN (packR f.sizes f.vals).1, 0) := by unfold Fl.wordR; rw [if_pos h]; rfl
    have h0 := right_pack h
    rw [e0]
    obtain ⟨k, s, d, q, l, m, c, x⟩ := f
    rcases right_forms h with ⟨h1, a1, a2, a3, a4, a5, a6, a7, a8, a9⟩ | ⟨hk2, b1, b2, b3, b4, b5, b6, hx⟩
    · simp only at h1 a1 a2 a3 a4 a5 a6 a7 a8 a9
      subst h1
      obtain ⟨s, rfl⟩ := Int.eq_ofNat_of_zero_le a1
      obtain ⟨d, rfl⟩ := Int.eq_ofNat_of_zero_le a3
      obtain ⟨q, rfl⟩ := Int.eq_ofNat_of_zero_le a5
      obtain ⟨l, rfl⟩ := Int.eq_ofNat_of_zero_le a7
      have e1 : (Fl.mk 1 s d q l m c x).sizes = YtoejpngdkcnnhaaGreat.hs := by unfold Fl.sizes; rw [if_pos rfl]
      have e2 : (Fl.mk 1 s d q l m c x).vals = [1, s, d, q, l, bitN m, bitN c] := by unfold Fl.vals; rw [if_pos rfl]; rfl
      rw [e1, e2] at h0 ⊢
      exact rwrite_head s d q l m c x w (by omega) (by omega) (by omega) (by omega) h _ (Prod.ext rfl h0)
    · simp only at hk2 b1 b2 b3 b4 b5 b6 hx
      subst b1 b2 b3 b4 b5 b6
      obtain ⟨k, rfl⟩ := Int.eq_ofNat_of_zero_le (a := k) (by omega)
      have e1 : (Fl.mk k 0 0 0 0 false false x).sizes = ds x.size := by unfold Fl.sizes; rw [if_neg (by show ¬ (k : Int) = 1; omega)]
      have e2 : (Fl.mk k 0 0 0 0 false false x).vals = k :: x.size :: bytes x := by unfold Fl.vals; rw [if_neg (by show ¬ (k : Int) = 1; omega)]; rfl
      rw [e1, e2] at h0 ⊢
      exact rwrite_data k x w (by omega) (by omega) hx h _ (Prod.ext rfl h0)
  · have h' : f.rightB = false := by simpa using h
    have e1 : f.wordR = (0, 1) := by unfold Fl.wordR; rw [if_neg h]
    rw [e1]
    have hR := rfright_any f (w.alloc (.cells (flc f) 87))
    rw [show (w.alloc (.cells (flc f) 87)).heap.size = w.heap.size + 1 by simp] at hR
    have B0 : Hid (∀ w1, Below (w.heap.size + 1) (w.alloc (.cells (flc f) 87)) w1 → Below w.heap.size w w1) := fun w1 h => below_box _ _ h
    rw [h'] at hR
    clear e1 h h'
    simp only [flv, flc] at *
    go_enter Tryz.func33, Tryz.ntmps33
    go_wp2_with fail
    go_at_call 51
    refine hR.mono ?_
    rintro e w1 ⟨rfl, hb⟩
    have HB : Hid (Below w.heap.size w w1) := B0.out _ hb
    clear hb hR
    go_wp2
    go_ret2
    exact ⟨rfl, HB.out⟩

abbrev zc : Array Value := #[.int .i64 0, .int .i64 0, .int .i64 0, .int .i64 0, .int .i64 0, .bool false, .bool false, .string ⟨#[]⟩]

/-- The cells of a result that has been laid. -/
theorem zero_cells {w w2 : World} {B : Nat} (o : Obj) (hb : Below B ((w.alloc (.cells zc 87)).alloc o) w2) (hB : w.heap.size < B) (j : Nat) :
    w2.cell? ⟨w.heap.size, j, none⟩ = zc[j]? ∧ w2.frozen? ⟨w.heap.size, j, none⟩ = false := by
  have e : ((w.alloc (.cells zc 87)).alloc o).heap[w.heap.size]? = some (.cells zc 87 (0, 0)) := by
    rw [Below.heap_alloc _ _ _ (by simp)]
    exact heap_alloc_new w _
  have e2 := (hb.block w.heap.size hB).trans e
  refine ⟨cell_of e2 j, ?_⟩
  simp [World.frozen?, e2]

theorem below_eight {w w2 : World} (h : Below w.heap.size w w2) (a b c d e f g i : Value) :
    Below w.heap.size w ((((((((w2.setCell ⟨w.heap.size, 0, none⟩ a).setCell ⟨w.heap.size, 1, none⟩ b).setCell ⟨w.heap.size, 2, none⟩ c).setCell ⟨w.heap.size, 3, none⟩ d).setCell ⟨w.heap.size, 4, none⟩ e).setCell ⟨w.heap.size, 5, none⟩ f).setCell ⟨w.heap.size, 6, none⟩ g).setCell ⟨w.heap.size, 7, none⟩ i) :=
  (((((((h.setCell (Nat.le_refl _) _).setCell (Nat.le_refl _) _).setCell (Nat.le_refl _) _).setCell (Nat.le_refl _) _).setCell (Nat.le_refl _) _).setCell (Nat.le_refl _) _).setCell (Nat.le_refl _) _).setCell (Nat.le_refl _) _

set_option maxRecDepth 100000 in
set_option maxHeartbeats 1600000 in
theorem unHead_any (W v0 v1 v2 v3 v4 v5 v6 : Nat) (hW : W < 18446744073709551616) (hv : vals W 0 hs = [v0, v1, v2, v3, v4, v5, v6]) (w : World) :
    Calls Tryz.prog 95 #[.int .u64 W] w fun e w' => e = .returned (flv ⟨v0, v1, v2, v3, v4, (v5 : Int) == 1, (v6 : Int) == 1, ⟨#[]⟩⟩) ∧ Below w.heap.size w w' := by
  have hu : unpackR W hs = ([v0, v1, v2, v3, v4, v5, v6], 0) := by unfold unpackR; rw [if_pos hs_room, hv]
  have hl : ∀ v ∈ [v0, v1, v2, v3, v4, v5, v6], v < 4294967296 := by
    rw [← hv]
    intro v hm
    simp only [hs, vals, List.mem_cons, List.not_mem_nil, or_false] at hm
    rcases hm with rfl | rfl | rfl | rfl | rfl | rfl | rfl <;> exact getV_lt _ _ _
  have l0 := hl v0 (by simp)
  have l1 := hl v1 (by simp)
  have l2 := hl v2 (by simp)
  have l3 := hl v3 (by simp)
  have l4 := hl v4 (by simp)
  have l5 := hl v5 (by simp)
  have l6 := hl v6 (by simp)
  have H := fun w => headSizes_any w
  have U := unpack_any W hW ((w.alloc (.cells zc 87)).alloc hsO) (some ⟨w.heap.size + 1, 0, none⟩) 7 7 hs rfl (by omega) (by
    have := rd_new (w.alloc (.cells zc 87)) (vi hs) 3
    rw [show (w.alloc (.cells zc 87)).heap.size = w.heap.size + 1 by simp] at this
    exact this)
  rw [hu] at U
  clear hl hv hu
  simp only [flv, flc]
  go_enter Tryz.func95, Tryz.ntmps95
  go_wp2_with (go_at_call 86; (with_reducible refine (H _).mono ?_); rintro e w' ⟨rfl, rfl⟩)
  go_at_call 104
  refine U.mono ?_
  rintro e w2 ⟨v, rfl, hU, hb⟩
  obtain ⟨a, cap, rfl, _, _, hR⟩ := hU.rd
  obtain ⟨g, off, rfl, hc0⟩ := hR.cell (k := 0) (v := .int .u32 v0) rfl
  have hcs : ∀ j v, (vu [v0, v1, v2, v3, v4, v5, v6])[j]? = some v → w2.cell? ⟨g, off + j, none⟩ = some v := fun j v hj => by
    obtain ⟨g2, off2, he, hc⟩ := hR.cell hj
    simp only [Option.some.injEq, Addr.mk.injEq] at he
    obtain ⟨rfl, rfl, _⟩ := he
    exact hc
  have k0 := hcs 0 _ rfl
  have k1 := hcs 1 _ rfl
  have k2 := hcs 2 _ rfl
  have k3 := hcs 3 _ rfl
  have k4 := hcs 4 _ rfl
  have k5 := hcs 5 _ rfl
  have k6 := hcs 6 _ rfl
  have hz := fun j => zero_cells hsO hb (by simp; omega) j
  have HB : Hid (Below w.heap.size w w2) := (below_two w _ _).trans (hb.mono (by simp; omega))
  have z0 := (hz 0).1
  have z1 := (hz 1).1
  have z2 := (hz 2).1
  have z3 := (hz 3).1
  have z4 := (hz 4).1
  have z5 := (hz 5).1
  have z6 := (hz 6).1
  have z7 := (hz 7).1
  have f0 := (hz 0).2
  have f1 := (hz 1).2
  have f2 := (hz 2).2
  have f3 := (hz 3).2
  have f4 := (hz 4).2
  have f5 := (hz 5).2
  have f6 := (hz 6).2
  have f7 := (hz 7).2
  have hge := (World.ownsRow.lt hU g rfl).1
  have hgn : ¬ g = w.heap.size := by simp at hge; omega
  have hgm : ¬ w.heap.size = g := fun h => hgn h.symm
  clear hge
  have r0 : IntKind.i64.wrap (v0 : Int) = v0 := IntWalk.i64_in _ (by omega)
  have r1 : IntKind.i64.wrap (v1 : Int) = v1 := IntWalk.i64_in _ (by omega)
  have r2 : IntKind.i64.wrap (v2 : Int) = v2 := IntWalk.i64_in _ (by omega)
  have r3 : IntKind.i64.wrap (v3 : Int) = v3 := IntWalk.i64_in _ (by omega)
  have r4 : IntKind.i64.wrap (v4 : Int) = v4 := IntWalk.i64_in _ (by omega)
  simp at z0 z1 z2 z3 z4 z5 z6 z7
  clear hz hb hcs hU hR hc0
  rw [Nat.add_zero] at k0
  go_wp2_with fail
  go_region_held3 (fun w' => w'.cell? ⟨g, off, none⟩ = some (.int .u32 v0) ∧ w'.cell? ⟨g, off + 1, none⟩ = some (.int .u32 v1) ∧ w'.cell? ⟨g, off + 2, none⟩ = some (.int .u32 v2) ∧ w'.cell? ⟨g, off + 3, none⟩ = some (.int .u32 v3) ∧ w'.cell? ⟨g, off + 4, none⟩ = some (.int .u32 v4) ∧ w'.cell? ⟨g, off + 5, none⟩ = some (.int .u32 v5) ∧ w'.cell? ⟨g, off + 6, none⟩ = some (.int .u32 v6))
    (go_keep) (first | (go_at_call 9999; skip))
  go_wp2
  exact bodyPost_ret (v := .agg #[.int .i64 v0, .int .i64 v1, .int .i64 v2, .int .i64 v3, .int .i64 v4, .bool ((v5 : Int) == 1), .bool ((v6 : Int) == 1), .string ⟨#[]⟩]) (by simp [results, Tryz.results95, go_sem, z0, z1, z2, z3, z4, z5, z6, z7]) rfl
    ⟨rfl, below_drew (below_eight HB.out _ _ _ _ _ _ _ _)⟩
end Go.Proofs.YtoejpngdkcnnhaaGreat

namespace Go.Proofs.YtoejpngdkcnnhaaGreat
open Go.RowKit

theorem Tryz.info5 : (Tryz.prog.info? 5).map (fun i => (i.zero, i.size, i.bytes)) = some (some (.int .u8 0), 1, 1) := by kernel_rfl

theorem Own.mono {e : TypeId} {w : World} {B B' : Nat} {v : Value} {l : List Value} (h : Own e w B v l) (hb : B' ≤ B) : Own e w B' v l := by
  obtain ⟨h1, h2⟩ := h
  refine ⟨h1, ?_⟩
  rcases h2 with h2 | ⟨g, cap, cur, h3, h4, h5⟩
  · exact Or.inl h2
  · exact Or.inr ⟨g, cap, cur, h3, by omega, h5⟩

/-- A row of the call's own that is not empty lies at the head of a block. -/
theorem Own.form {e : TypeId} {w : World} {B : Nat} {v : Value} {l : List Value} (h : Own e w B v l) (hl : 0 < l.length) :
    ∃ g cap, v = .slice (some ⟨g, 0, none⟩) l.length cap ∧ l.length ≤ cap ∧ cap ≤ maxLen ∧ B ≤ g ∧ ∀ j x, l[j]? = some x → w.cell? ⟨g, j, none⟩ = some x := by
  have hr := h.rd
  rcases h.2 with ⟨_, h2⟩ | ⟨g, cap, cur, rfl, hg, hh, hc1, hc2, hc3, hc4⟩
  · omega
  · refine ⟨g, cap, rfl, hc1, hc2, hg, fun j x hj => ?_⟩
    obtain ⟨a, cap2, he, _, _, hR⟩ := hr
    simp only [Value.slice.injEq] at he
    obtain ⟨g2, off, he2, _, hc⟩ := hR j x hj
    rw [← he.1] at he2
    simp only [Option.some.injEq, Addr.mk.injEq] at he2
    obtain ⟨rfl, rfl, _⟩ := he2
    rw [Nat.zero_add] at hc
    exact hc

/-- 'string(b)' of bytes of the call's own. -/
theorem own_string {w : World} {B : Nat} {v : Value} {L : List Nat} (h : Own 5 w B v (vb L)) (hl : ∀ x ∈ L, x < 256) : (convert 136 9 v).run Tryz.prog w = .ok (.string (ofB L)) w := by
  obtain ⟨a, cap, rfl, _, _, hR⟩ := h.rd
  by_cases h0 : L = []
  · subst h0
    rcases h.2 with ⟨h1, _⟩ | ⟨g, cap', cur, h1, _⟩
    · simp only [Value.slice.injEq] at h1
      obtain ⟨rfl, _, rfl⟩ := h1
      exact run_convert_bytes_nil w 136 5 Tryz.underlying136 Tryz.underlying5 _ _ 9 Tryz.underlying9
    · simp only [Value.slice.injEq] at h1
      obtain ⟨rfl, _, rfl⟩ := h1
      exact run_convert_bytes_arg w 136 5 Tryz.underlying136 Tryz.underlying5 g 0 _ _ [] rfl (fun i hi => absurd hi (by simp)) 9 Tryz.underlying9
  · have hpos : 0 < L.length := List.length_pos_iff.mpr h0
    obtain ⟨g, off, rfl, _⟩ := hR.cell (k := 0) (v := .int .u8 (L.getD 0 0 : Nat)) (by simp [vb, hpos])
    have := run_convert_bytes_arg w 136 5 Tryz.underlying136 Tryz.underlying5 g off (vb L).length cap (L.map fun (n : Nat) => (n : Int)) (by simp [vb]) (fun i hi => by
      have hi' : i < L.length := by simpa [vb] using hi
      obtain ⟨g2, off2, he, hc⟩ := hR.cell (k := i) (v := .int .u8 (L.getD i 0 : Nat)) (by simp [vb, hi'])
      simp only [Option.some.injEq, Addr.mk.injEq] at he
      obtain ⟨rfl, rfl, _⟩ := he
      rw [hc]
      simp [hi']) 9 Tryz.underlying9
    rw [this]
    unfold strOfNums ofB
    simp only [List.map_map]
    congr 4

/-- The cells of a result that has been laid, as the first new block. -/
theorem zero_cells1 {w w2 : World} (hb : Below (w.heap.size + 1) (w.alloc (.cells zc 87)) w2) (j : Nat) :
    w2.cell? ⟨w.heap.size, j, none⟩ = zc[j]? ∧ w2.frozen? ⟨w.heap.size, j, none⟩ = false := by
  have e2 := (hb.block w.heap.size (by omega)).trans (heap_alloc_new w _)
  refine ⟨cell_of e2 j, ?_⟩
  simp [World.frozen?, e2]

theorem vb_snoc (l : List Nat) (j : Nat) (h : j < l.length) : vb (l.take j) ++ [.int .u8 ((l.getD j 0 : Nat) : Int)] = vb (l.take (j + 1)) := by
  have : l.take (j + 1) = l.take j ++ [l.getD j 0] := by
    rw [List.take_succ_eq_append_getElem h]; simp [h]
  rw [this]
  simp [vb]

set_option maxRecDepth 100000 in
set_option maxHeartbeats 1600000 in
theorem unData_any (W n v0 v1 : Nat) (L : List Nat) (hW : W < 18446744073709551616) (hn : getV W 2 3 = n) (hn7 : n ≤ 7) (hv : vals W 0 (ds n) = v0 :: v1 :: L) (hL : L.length = n) (hL8 : ∀ x ∈ L, x < 256) (hv0 : v0 < 4) (w : World) :
    Calls Tryz.prog 96 #[.int .u64 W] w fun e w' => e = .returned (flv ⟨v0, 0, 0, 0, 0, false, false, ofB L⟩) ∧ Below w.heap.size w w' := by
  obtain ⟨i0, hi, hz0, hz1, hz2⟩ := info_parts Tryz.info5
  obtain ⟨B, hB⟩ : ∃ B, B = w.heap.size + 1 := ⟨_, rfl⟩
  have hu : unpackR W (ds n) = (v0 :: v1 :: L, 0) := by unfold unpackR; rw [if_pos (ds_room n hn7), hv]
  have G := fun w => get_any W 2 3 hW w
  rw [hn, show getE 2 3 = 0 by decide] at G
  have D := fun w => dataSizes_any n hn7 w
  have HU : Hid (unpackR W (ds n) = (v0 :: v1 :: L, 0)) := hu
  have HL : Hid (L.length = n) := hL
  have HL8 : Hid (∀ x ∈ L, x < 256) := hL8
  have HB : Hid (B = w.heap.size + 1) := hB
  clear hn hv hu hL hL8 hB
  obtain ⟨X, hX⟩ : ∃ X, X = ofB L := ⟨_, rfl⟩
  rw [← hX]
  have HX : Hid (X = ofB L) := hX
  clear hX
  simp only [flv, flc]
  go_enter Tryz.func96, Tryz.ntmps96
  go_wp2_with fail
  go_at_call 103
  refine (G _).mono ?_
  rintro e w1 ⟨rfl, n1, rfl⟩
  go_wp2_with fail
  go_at_call 88
  refine (D _).mono ?_
  rintro e w2 ⟨v, rfl, ho, hb⟩
  obtain ⟨a, cap, rfl, _, _, hR⟩ := ho.rd
  have hb2 : Below B (w.alloc (.cells zc 87)) w2 := (below_drewN (Below.refl B _) _).trans (hb.mono (by rw [HB.out]; simp))
  have U := unpack_any W hW w2 a (n + 2) cap (ds n) (by simp [ds]) (by omega) hR
  rw [HU.out] at U
  have hl0 : (vi (ds n)).length = n + 2 := by simp [vi, ds]
  have hsz2 : B ≤ w2.heap.size := by have := hb2.size; have := HB.out; simp at *; omega
  rw [hl0]
  clear ho hb hR hl0 G D
  go_wp2_with fail
  go_at_call 104
  refine U.mono ?_
  rintro e w3 ⟨v, rfl, hU, hb3⟩
  have hO : Own 96 w3 B v (vu (v0 :: v1 :: L)) := by
    have h1 : Own 96 w3 w2.heap.size v (vu (v0 :: v1 :: L)) := by
      unfold Own
      rw [show (vu (v0 :: v1 :: L)).length = (v0 :: v1 :: L).length by simp [vu]]
      exact hU
    exact h1.mono hsz2
  have hb4 : Below B (w.alloc (.cells zc 87)) w3 := hb2.trans (hb3.mono hsz2)
  have hsz3 : B ≤ w3.heap.size := by have := hb3.size; omega
  obtain ⟨g, cap3, rfl, hc1, hc2, hg, hcs⟩ := hO.form (by simp [vu])
  have hl1 : (vu (v0 :: v1 :: L)).length = n + 2 := by simp [vu]; exact HL.out
  rw [hl1] at hO hc1 ⊢
  clear hU hb2 hb3 U hl1 hsz2 hcs
  go_wp2_with (at_make; refine wpList_make_own _ rfl _ _ 136 rfl B 5 i0 (.int .u8 0) 1 Tryz.underlying136 hi hz0 hz1 .i64 .u32 _ n rfl rfl rfl ?b2 ?b3 hsz3 ?_)
  case b2 => rw [hz2]; omega
  case b3 => unfold maxLen; omega
  intro w4 hown4 hgrow4
  have hO4 : Own 96 w4 B (.slice (some ⟨g, 0, none⟩) (n + 2) cap3) (vu (v0 :: v1 :: L)) := World.ownsRow.kept hO hgrow4 (Or.inr (by simp [Value.ownBlock]))
  have hb5 : Below B (w.alloc (.cells zc 87)) w4 := Below.grown hb4 hgrow4 hsz3 (fun k h => by cases h)
  have O4 : Hid (Own 96 w4 B (.slice (some ⟨g, 0, none⟩) (n + 2) cap3) (vu (v0 :: v1 :: L))) := hO4
  have B5 : Hid (Below B (w.alloc (.cells zc 87)) w4) := hb5
  have O5 : Hid (Own 5 w4 B (.slice (some ⟨w3.heap.size, 0, none⟩) 0 n) (vb (L.take 0))) := hown4
  clear hO4 hb5 hown4 hgrow4 hb4 hsz3 hO
  unfold maxLen at hc2
  by_cases hcap : cap3 = 2
  · obtain rfl : n = 0 := by omega
    go_wp2
    go_loopw [7, 31] (fun v i wr => ∃ j : Nat, j ≤ 0 ∧ i = .int .i64 j ∧ Own 5 wr B v (vb (L.take j)) ∧ Own 96 wr B (.slice (some ⟨g, 0, none⟩) (0 + 2) cap3) (vu (v0 :: v1 :: L)) ∧ Below B (w.alloc (.cells zc 87)) wr) (fun _ i _ => 0 - (intOf i).toNat)
    case atStart => exact ⟨0, Nat.zero_le _, rfl, O5.out, O4.out, B5.out⟩
    case round =>
      obtain ⟨j, hj, rfl, own5, own44, hbel⟩ := hrel
      obtain rfl : j = 0 := by omega
      rw [show L.take 0 = L from List.take_of_length_le (by have := HL.out; omega)] at own5
      obtain ⟨g2, cp2, he, _, _, _, hcs⟩ := own44.form (by simp [vu])
      simp only [Value.slice.injEq, Option.some.injEq, Addr.mk.injEq] at he
      obtain ⟨⟨rfl, _⟩, hlen, rfl⟩ := he
      clear hlen
      have k0 := hcs 0 _ rfl
      have K0 : wr.drew.cell? ⟨g, 0, none⟩ = some (.int .u32 v0) := k0
      have hst := own_string (w := wr.drew) own5 HL8.out
      rw [← HX.out] at hst
      have hz := fun j => zero_cells1 (w := w) (w2 := wr) (by rw [← HB.out]; exact hbel) j
      have z0 := (hz 0).1
      have z1 := (hz 1).1
      have z2 := (hz 2).1
      have z3 := (hz 3).1
      have z4 := (hz 4).1
      have z5 := (hz 5).1
      have z6 := (hz 6).1
      have z7 := (hz 7).1
      have f0 := (hz 0).2
      have f1 := (hz 1).2
      have f2 := (hz 2).2
      have f3 := (hz 3).2
      have f4 := (hz 4).2
      have f5 := (hz 5).2
      have f6 := (hz 6).2
      have f7 := (hz 7).2
      simp at z0 z1 z2 z3 z4 z5 z6 z7
      have HBW : Hid (Below w.heap.size w wr) := ((Below.refl _ _).alloc (Nat.le_refl _) _).trans (hbel.mono (by rw [HB.out]; omega))
      clear hz hcs own5 own44 hbel
      go_wp2_with fail
      go_region
      go_wp2
      exact bodyPost_ret (v := .agg #[.int .i64 v0, .int .i64 0, .int .i64 0, .int .i64 0, .int .i64 0, .bool false, .bool false, .string X]) (by simp [results, Tryz.results96, go_sem, z0, z1, z2, z3, z4, z5, z6, z7]) rfl ⟨rfl, below_drew (below_eight HBW.out _ _ _ _ _ _ _ _)⟩
  · have hcap3 : 2 < cap3 := by omega
    go_wp2
    go_loopw [7, 31] (fun v i wr => ∃ j : Nat, j ≤ n ∧ i = .int .i64 j ∧ Own 5 wr B v (vb (L.take j)) ∧ Own 96 wr B (.slice (some ⟨g, 0, none⟩) (n + 2) cap3) (vu (v0 :: v1 :: L)) ∧ Below B (w.alloc (.cells zc 87)) wr) (fun _ i _ => n - (intOf i).toNat)
    case atStart => exact ⟨0, Nat.zero_le _, rfl, O5.out, O4.out, B5.out⟩
    case round =>
      obtain ⟨j, hj, rfl, own5, own44, hbel⟩ := hrel
      by_cases hlt : j < n
      · have hsz : B ≤ wr.heap.size := by have := hbel.size; have := HB.out; simp at *; omega
        have hc : wr.cell? ⟨g, 2 + j, none⟩ = some (.int .u32 (L.getD j 0 : Nat)) := by
          obtain ⟨g2, cp2, he, _, _, _, hcs⟩ := own44.form (by simp [vu])
          simp only [Value.slice.injEq, Option.some.injEq, Addr.mk.injEq] at he
          obtain ⟨⟨rfl, _⟩, hlen, rfl⟩ := he
          clear hlen
          refine hcs (2 + j) _ ?_
          have hjl : j < L.length := by have := HL.out; omega
          rw [Nat.add_comm]
          simp [vu, hjl]
        have hb256 : L.getD j 0 < 256 := by
          have hjl : j < L.length := by have := HL.out; omega
          have e : L.getD j 0 = L[j] := by simp [hjl]
          rw [e]
          exact HL8.out _ (List.getElem_mem hjl)
        have he2 := vb_snoc L j (by have := HL.out; omega)
        have hl2 : (vb (L.take j)).length ≤ 1000000 := by simp [vb]; omega
        obtain ⟨b, hb⟩ : ∃ b, b = L.getD j 0 := ⟨_, rfl⟩
        rw [← hb] at hc hb256 he2
        have HE2 : Hid (vb (L.take j) ++ [.int .u8 (b : Int)] = vb (L.take (j + 1))) := he2
        clear he2 hb
        generalize vb (L.take j) = L2 at *
        go_wp2_with (at_builtin; refine wpList_app_one rfl (.tmp 35) (.tmp 38) 136 5 i0 (.int .u8 0) 1 rfl Tryz.underlying136 hi hz0 hz1 hz2 rfl (by decide) B wr _ _ (.int .u8 (b : Int)) rfl own5 rfl rfl hl2 hsz ?_; intro v1' wa o1a ka; have ba := ka.2.1 _ hbel; have o2a := ka.2.2.1 96 _ _ (by decide) own44; clear ka own5 own44 hbel)
        rw [HE2.out] at o1a
        go_roundw
        case rel => exact ⟨j + 1, by omega, by go_num, o1a, o2a, ba⟩
        case measure => simp [intOf]; omega
      · obtain rfl : j = n := by omega
        rw [show L.take j = L from List.take_of_length_le (by have := HL.out; omega)] at own5
        obtain ⟨g2, cp2, he, _, _, _, hcs⟩ := own44.form (by simp [vu])
        simp only [Value.slice.injEq, Option.some.injEq, Addr.mk.injEq] at he
        obtain ⟨⟨rfl, _⟩, hlen, rfl⟩ := he
        clear hlen
        have k0 := hcs 0 _ rfl
        have K0 : wr.drew.cell? ⟨g, 0, none⟩ = some (.int .u32 v0) := k0
        have hst := own_string (w := wr.drew) own5 HL8.out
        rw [← HX.out] at hst
        have hz := fun j => zero_cells1 (w := w) (w2 := wr) (by rw [← HB.out]; exact hbel) j
        have z0 := (hz 0).1
        have z1 := (hz 1).1
        have z2 := (hz 2).1
        have z3 := (hz 3).1
        have z4 := (hz 4).1
        have z5 := (hz 5).1
        have z6 := (hz 6).1
        have z7 := (hz 7).1
        have f0 := (hz 0).2
        have f1 := (hz 1).2
        have f2 := (hz 2).2
        have f3 := (hz 3).2
        have f4 := (hz 4).2
        have f5 := (hz 5).2
        have f6 := (hz 6).2
        have f7 := (hz 7).2
        simp at z0 z1 z2 z3 z4 z5 z6 z7
        have HBW : Hid (Below w.heap.size w wr) := ((Below.refl _ _).alloc (Nat.le_refl _) _).trans (hbel.mono (by rw [HB.out]; omega))
        clear hz hcs own5 own44 hbel
        go_wp2_with fail
        go_region
        go_wp2
        exact bodyPost_ret (v := .agg #[.int .i64 v0, .int .i64 0, .int .i64 0, .int .i64 0, .int .i64 0, .bool false, .bool false, .string X]) (by simp [results, Tryz.results96, go_sem, z0, z1, z2, z3, z4, z5, z6, z7]) rfl ⟨rfl, below_drew (below_eight HBW.out _ _ _ _ _ _ _ _)⟩
end Go.Proofs.YtoejpngdkcnnhaaGreat

namespace Go.Proofs.YtoejpngdkcnnhaaGreat
open Go.RowKit

theorem beq_one (v : Nat) : ((v : Int) == 1) = (v == 1) := by
  by_cases h : v = 1
  · subst h; rfl
  · have h1 : ((v : Int) == 1) = false := by simp; omega
    have h2 : (v == 1) = false := by simpa using h
    rw [h1, h2]

theorem decH_any (W : Nat) (hW : W < 18446744073709551616) (h1 : W % 4 = 1) (w : World) : Calls Tryz.prog 95 #[.int .u64 W] w fun e w' => e = .returned (flv (dec W)) ∧ Below w.heap.size w w' := by
  have e : vals W 0 hs = [getV W 0 2, getV W 2 12, getV W 14 12, getV W 26 16, getV W 42 7, getV W 49 1, getV W 50 1] := rfl
  have h := unHead_any W _ _ _ _ _ _ _ hW e w
  have hd : dec W = ⟨1, getV W 2 12, getV W 14 12, getV W 26 16, getV W 42 7, getV W 49 1 == 1, getV W 50 1 == 1, ByteArray.empty⟩ := by
    unfold dec decH
    rw [if_pos h1, e]
    rfl
  rw [hd]
  rw [getV_02, h1, beq_one, beq_one] at h
  exact h

theorem decD_vals (W : Nat) : vals W 0 (ds (getV W 2 3)) = W % 4 :: getV W 2 3 :: vals W 5 (List.replicate (getV W 2 3) 8) := by
  show getV W 0 2 :: getV W (0 + 2) 3 :: vals W (0 + 2 + 3) _ = _
  rw [getV_02]
  rfl

theorem len3 (W : Nat) : getV W 2 3 ≤ 7 := by
  rw [getV_of (by decide)]
  have : W / 2 ^ (2 : Int).toNat % 2 ^ (3 : Int).toNat < 2 ^ (3 : Int).toNat := Nat.mod_lt _ (by decide)
  have e : (2 : Nat) ^ (3 : Int).toNat = 8 := by decide
  omega

theorem vals8 (W : Nat) : ∀ (n : Nat) (a : Int), ∀ x ∈ vals W a (List.replicate n 8), x < 256
  | 0, _, x, h => by cases h
  | n + 1, a, x, h => by
    rw [List.replicate_succ, vals, List.mem_cons] at h
    rcases h with rfl | h
    · unfold getV
      split
      · have : W / 2 ^ a.toNat % 2 ^ (8 : Int).toNat < 2 ^ (8 : Int).toNat := Nat.mod_lt _ (by decide)
        have e : (2 : Nat) ^ (8 : Int).toNat = 256 := by decide
        omega
      · decide
    · exact vals8 W n (a + 8) x h

theorem decD_any (W : Nat) (hW : W < 18446744073709551616) (h2 : W % 4 = 2 ∨ W % 4 = 3) (w : World) : Calls Tryz.prog 96 #[.int .u64 W] w fun e w' => e = .returned (flv (dec W)) ∧ Below w.heap.size w w' := by
  have h := unData_any W (getV W 2 3) (W % 4) (getV W 2 3) (vals W 5 (List.replicate (getV W 2 3) 8)) hW rfl (len3 W) (decD_vals W) (by rw [vals_len]; simp) (vals8 W _ _) (Nat.mod_lt _ (by decide)) w
  have hd : dec W = ⟨(W % 4 : Nat), 0, 0, 0, 0, false, false, ofB (vals W 5 (List.replicate (getV W 2 3) 8))⟩ := by
    unfold dec decD
    rw [if_neg (by omega), if_neg (by omega), decD_vals]
    rfl
  rw [hd]
  exact h

theorem kind_drew (W : Nat) (hW : W < 18446744073709551616) (w : World) : Calls Tryz.prog 94 #[.int .u64 W] w fun e w' => e = .returned (.int .i64 ((W % 4 : Nat) : Int)) ∧ Drew w w' :=
  (kind_any W hW w).mono fun _ _ h => ⟨h.1, h.2⟩

/-- A result's eight cells, zero and not frozen. -/
theorem zeros {w w2 : World} (hb : Below (w.heap.size + 1) (w.alloc (.cells zc 87)) w2) :
    w2.cell? ⟨w.heap.size, 0, none⟩ = some (.int .i64 0) ∧
    w2.cell? ⟨w.heap.size, 1, none⟩ = some (.int .i64 0) ∧
    w2.cell? ⟨w.heap.size, 2, none⟩ = some (.int .i64 0) ∧
    w2.cell? ⟨w.heap.size, 3, none⟩ = some (.int .i64 0) ∧
    w2.cell? ⟨w.heap.size, 4, none⟩ = some (.int .i64 0) ∧
    w2.cell? ⟨w.heap.size, 5, none⟩ = some (.bool false) ∧
    w2.cell? ⟨w.heap.size, 6, none⟩ = some (.bool false) ∧
    w2.cell? ⟨w.heap.size, 7, none⟩ = some (.string ⟨#[]⟩) ∧
    w2.frozen? ⟨w.heap.size, 0, none⟩ = false ∧
    w2.frozen? ⟨w.heap.size, 1, none⟩ = false ∧
    w2.frozen? ⟨w.heap.size, 2, none⟩ = false ∧
    w2.frozen? ⟨w.heap.size, 3, none⟩ = false ∧
    w2.frozen? ⟨w.heap.size, 4, none⟩ = false ∧
    w2.frozen? ⟨w.heap.size, 5, none⟩ = false ∧
    w2.frozen? ⟨w.heap.size, 6, none⟩ = false ∧
    w2.frozen? ⟨w.heap.size, 7, none⟩ = false :=
  ⟨(zero_cells1 hb 0).1, (zero_cells1 hb 1).1, (zero_cells1 hb 2).1, (zero_cells1 hb 3).1, (zero_cells1 hb 4).1, (zero_cells1 hb 5).1, (zero_cells1 hb 6).1, (zero_cells1 hb 7).1, (zero_cells1 hb 0).2, (zero_cells1 hb 1).2, (zero_cells1 hb 2).2, (zero_cells1 hb 3).2, (zero_cells1 hb 4).2, (zero_cells1 hb 5).2, (zero_cells1 hb 6).2, (zero_cells1 hb 7).2⟩

set_option maxHeartbeats 400000 in
theorem unpack_zero (W : Nat) (hW : W < 18446744073709551616) (h : W % 4 = 0) (w : World) : Calls Tryz.prog 75 #[.int .u64 W] w fun e w' => e = .returned (.agg zc) ∧ Below w.heap.size w w' := by
  have K := fun w => kind_drew W hW w
  rw [h] at K
  clear h
  go_enter Tryz.func75, Tryz.ntmps75
  go_wp2_with fail
  go_at_call 94
  refine (K _).mono ?_
  rintro e w2 ⟨rfl, hD⟩
  have hb : Below (w.heap.size + 1) (w.alloc (.cells zc 87)) w2 := hD.below _
  obtain ⟨z0, z1, z2, z3, z4, z5, z6, z7, f0, f1, f2, f3, f4, f5, f6, f7⟩ := zeros hb
  have HBW : Hid (Below w.heap.size w w2) := below_box _ _ hb
  clear hD hb K
  go_wp2
  exact bodyPost_ret (v := .agg #[.int .i64 0, .int .i64 0, .int .i64 0, .int .i64 0, .int .i64 0, .bool false, .bool false, .string ⟨#[]⟩]) (by simp [results, Tryz.results75, go_sem, z0, z1, z2, z3, z4, z5, z6, z7]) rfl ⟨rfl, below_eight HBW.out _ _ _ _ _ _ _ _⟩

set_option maxHeartbeats 400000 in
theorem unpack_head (W : Nat) (D : Fl) (hW : W < 18446744073709551616) (h : W % 4 = 1) (C : ∀ w, Calls Tryz.prog 95 #[.int .u64 W] w fun e w' => e = .returned (flv D) ∧ Below w.heap.size w w') (w : World) :
    Calls Tryz.prog 75 #[.int .u64 W] w fun e w' => e = .returned (flv D) ∧ Below w.heap.size w w' := by
  have K := fun w => kind_drew W hW w
  rw [h] at K
  clear h
  simp only [flv, flc] at *
  go_enter Tryz.func75, Tryz.ntmps75
  go_wp2_with fail
  go_at_call 94
  refine (K _).mono ?_
  rintro e w2 ⟨rfl, hD⟩
  have hb : Below (w.heap.size + 1) (w.alloc (.cells zc 87)) w2 := hD.below _
  have HBb : Hid (Below (w.heap.size + 1) (w.alloc (.cells zc 87)) w2) := hb
  clear hD hb K
  go_wp2_with fail
  go_at_call 95
  refine (C _).mono ?_
  rintro e w3 ⟨rfl, hc⟩
  have hb : Below (w.heap.size + 1) (w.alloc (.cells zc 87)) w3 := HBb.out.trans (hc.mono (by have := HBb.out.size; simp at *; omega))
  obtain ⟨z0, z1, z2, z3, z4, z5, z6, z7, f0, f1, f2, f3, f4, f5, f6, f7⟩ := zeros hb
  have HBW : Hid (Below w.heap.size w w3) := below_box _ _ hb
  clear hc hb C
  go_wp2
  exact bodyPost_ret (v := .agg #[.int .i64 D.k, .int .i64 D.s, .int .i64 D.d, .int .i64 D.q, .int .i64 D.l, .bool D.m, .bool D.c, .string D.x]) (by simp [results, Tryz.results75, go_sem, z0, z1, z2, z3, z4, z5, z6, z7]) rfl ⟨rfl, below_eight HBW.out _ _ _ _ _ _ _ _⟩

set_option maxHeartbeats 400000 in
theorem unpack_two (W : Nat) (D : Fl) (hW : W < 18446744073709551616) (h : W % 4 = 2) (C : ∀ w, Calls Tryz.prog 96 #[.int .u64 W] w fun e w' => e = .returned (flv D) ∧ Below w.heap.size w w') (w : World) :
    Calls Tryz.prog 75 #[.int .u64 W] w fun e w' => e = .returned (flv D) ∧ Below w.heap.size w w' := by
  have K := fun w => kind_drew W hW w
  rw [h] at K
  clear h
  simp only [flv, flc] at *
  go_enter Tryz.func75, Tryz.ntmps75
  go_wp2_with fail
  go_at_call 94
  refine (K _).mono ?_
  rintro e w2 ⟨rfl, hD⟩
  have hb : Below (w.heap.size + 1) (w.alloc (.cells zc 87)) w2 := hD.below _
  have HBb : Hid (Below (w.heap.size + 1) (w.alloc (.cells zc 87)) w2) := hb
  clear hD hb K
  go_wp2_with fail
  go_at_call 96
  refine (C _).mono ?_
  rintro e w3 ⟨rfl, hc⟩
  have hb : Below (w.heap.size + 1) (w.alloc (.cells zc 87)) w3 := HBb.out.trans (hc.mono (by have := HBb.out.size; simp at *; omega))
  obtain ⟨z0, z1, z2, z3, z4, z5, z6, z7, f0, f1, f2, f3, f4, f5, f6, f7⟩ := zeros hb
  have HBW : Hid (Below w.heap.size w w3) := below_box _ _ hb
  clear hc hb C
  go_wp2
  exact bodyPost_ret (v := .agg #[.int .i64 D.k, .int .i64 D.s, .int .i64 D.d, .int .i64 D.q, .int .i64 D.l, .bool D.m, .bool D.c, .string D.x]) (by simp [results, Tryz.results75, go_sem, z0, z1, z2, z3, z4, z5, z6, z7]) rfl ⟨rfl, below_eight HBW.out _ _ _ _ _ _ _ _⟩

set_option maxHeartbeats 400000 in
theorem unpack_three (W : Nat) (D : Fl) (hW : W < 18446744073709551616) (h : W % 4 = 3) (C : ∀ w, Calls Tryz.prog 96 #[.int .u64 W] w fun e w' => e = .returned (flv D) ∧ Below w.heap.size w w') (w : World) :
    Calls Tryz.prog 75 #[.int .u64 W] w fun e w' => e = .returned (flv D) ∧ Below w.heap.size w w' := by
  have K := fun w => kind_drew W hW w
  rw [h] at K
  clear h
  simp only [flv, flc] at *
  go_enter Tryz.func75, Tryz.ntmps75
  go_wp2_with fail
  go_at_call 94
  refine (K _).mono ?_
  rintro e w2 ⟨rfl, hD⟩
  have hb : Below (w.heap.size + 1) (w.alloc (.cells zc 87)) w2 := hD.below _
  have HBb : Hid (Below (w.heap.size + 1) (w.alloc (.cells zc 87)) w2) := hb
  clear hD hb K
  go_wp2_with fail
  go_at_call 96
  refine (C _).mono ?_
  rintro e w3 ⟨rfl, hc⟩
  have hb : Below (w.heap.size + 1) (w.alloc (.cells zc 87)) w3 := HBb.out.trans (hc.mono (by have := HBb.out.size; simp at *; omega))
  obtain ⟨z0, z1, z2, z3, z4, z5, z6, z7, f0, f1, f2, f3, f4, f5, f6, f7⟩ := zeros hb
  have HBW : Hid (Below w.heap.size w w3) := below_box _ _ hb
  clear hc hb C
  go_wp2
  exact bodyPost_ret (v := .agg #[.int .i64 D.k, .int .i64 D.s, .int .i64 D.d, .int .i64 D.q, .int .i64 D.l, .bool D.m, .bool D.c, .string D.x]) (by simp [results, Tryz.results75, go_sem, z0, z1, z2, z3, z4, z5, z6, z7]) rfl ⟨rfl, below_eight HBW.out _ _ _ _ _ _ _ _⟩

theorem unpack1_any (W : Nat) (hW : W < 18446744073709551616) (w : World) : Calls Tryz.prog 75 #[.int .u64 W] w fun e w' => e = .returned (flv (dec W)) ∧ Below w.heap.size w w' := by
  rcases (by omega : W % 4 = 0 ∨ W % 4 = 1 ∨ W % 4 = 2 ∨ W % 4 = 3) with h | h | h | h
  · have e : dec W = zf := by unfold dec; rw [if_neg (by omega), if_pos h]
    rw [e]
    exact unpack_zero W hW h w
  · exact unpack_head W (dec W) hW h (fun w => decH_any W hW h w) w
  · exact unpack_two W (dec W) hW h (fun w => decD_any W hW (Or.inl h) w) w
  · exact unpack_three W (dec W) hW h (fun w => decD_any W hW (Or.inr h) w) w

set_option maxHeartbeats 800000 in
theorem read_err (W : Nat) (D : Fl) (a : Nat) (e1 : Int) (hW : W < 18446744073709551616) (hr : sealN W = W) (h : e1 ≠ 0)
    (C : ∀ w, Calls Tryz.prog 75 #[.int .u64 W] w fun e w' => e = .returned (flv D) ∧ Below w.heap.size w w')
    (E : ∀ w, Calls Tryz.prog 48 #[flv D] w fun e w' => e = .returned (.tuple #[.int .u64 (a : Int), .int .i64 e1]) ∧ Below w.heap.size w w') (w : World) :
    Calls Tryz.prog 56 #[.int .u64 W] w fun e w' => e = .returned (.tuple #[.agg zc, .int .i64 2]) ∧ Below w.heap.size w w' := by
  have R := fun w => right_any W hW w
  rw [decide_eq_true hr] at R
  clear hr
  have t1 : (e1 != 0) = true := by simpa using h
  have t2 : (e1 == 0) = false := by simpa using h
  clear h
  simp only [flv, flc] at *
  go_enter Tryz.func56, Tryz.ntmps56
  go_wp2_with (go_at_call 74; (with_reducible refine (R _).mono ?_); rintro e w' ⟨rfl, rfl⟩)
  go_at_call 75
  refine (C _).mono ?_
  rintro e w2 ⟨rfl, hb⟩
  have hb1 : Below (w.heap.size + 1) (w.alloc (.cells zc 87)) w2 := hb.mono (by simp)
  have HB1 : Hid (Below (w.heap.size + 1) (w.alloc (.cells zc 87)) w2) := hb1
  have hz : w.heap.size < w2.heap.size := by have := hb1.size; simp at this; omega
  clear hb hb1 C R
  go_wp2_with fail
  go_at_call 48
  refine (E _).mono ?_
  rintro e w3 ⟨rfl, hc⟩
  have hf := fun j => flit_cells (w := w2) (w1 := w3) D (hc.mono (by simp)) j
  have hb := HB1.out.trans ((below_box (w := w2) (flc D) 87 (hc.mono (by simp))).mono (by omega))
  obtain ⟨z0, z1, z2, z3, z4, z5, z6, z7, f0, f1, f2, f3, f4, f5, f6, f7⟩ := zeros hb
  have HBW : Hid (Below w.heap.size w w3) := below_box _ _ hb
  have d0 : w3.cell? ⟨w2.heap.size, 0, none⟩ = some (.int .i64 D.k) := hf 0
  have d1 : w3.cell? ⟨w2.heap.size, 1, none⟩ = some (.int .i64 D.s) := hf 1
  have d2 : w3.cell? ⟨w2.heap.size, 2, none⟩ = some (.int .i64 D.d) := hf 2
  have d3 : w3.cell? ⟨w2.heap.size, 3, none⟩ = some (.int .i64 D.q) := hf 3
  have d4 : w3.cell? ⟨w2.heap.size, 4, none⟩ = some (.int .i64 D.l) := hf 4
  have d5 : w3.cell? ⟨w2.heap.size, 5, none⟩ = some (.bool D.m) := hf 5
  have d6 : w3.cell? ⟨w2.heap.size, 6, none⟩ = some (.bool D.c) := hf 6
  have d7 : w3.cell? ⟨w2.heap.size, 7, none⟩ = some (.string D.x) := hf 7
  have g1 : ¬ w2.heap.size = w.heap.size := by omega
  have g2 : ¬ w.heap.size = w2.heap.size := by omega
  clear hc hb hf E
  go_wp2
  exact bodyPost_ret (v := .tuple #[.agg #[.int .i64 0, .int .i64 0, .int .i64 0, .int .i64 0, .int .i64 0, .bool false, .bool false, .string ⟨#[]⟩], .int .i64 2]) (by simp [results, Tryz.results56, go_sem, z0, z1, z2, z3, z4, z5, z6, z7]) rfl ⟨rfl, below_eight HBW.out _ _ _ _ _ _ _ _⟩

set_option maxHeartbeats 800000 in
theorem read_ne (W : Nat) (D : Fl) (a : Nat) (e1 : Int) (hW : W < 18446744073709551616) (hr : sealN W = W) (h : e1 = 0) (hne : a ≠ W)
    (C : ∀ w, Calls Tryz.prog 75 #[.int .u64 W] w fun e w' => e = .returned (flv D) ∧ Below w.heap.size w w')
    (E : ∀ w, Calls Tryz.prog 48 #[flv D] w fun e w' => e = .returned (.tuple #[.int .u64 (a : Int), .int .i64 e1]) ∧ Below w.heap.size w w') (w : World) :
    Calls Tryz.prog 56 #[.int .u64 W] w fun e w' => e = .returned (.tuple #[.agg zc, .int .i64 2]) ∧ Below w.heap.size w w' := by
  have R := fun w => right_any W hW w
  rw [decide_eq_true hr] at R
  clear hr
  subst h
  have t1 : ((a : Int) != (W : Int)) = true := by simp; omega
  have t2 : ((a : Int) == (W : Int)) = false := by simp; omega
  clear hne
  simp only [flv, flc] at *
  go_enter Tryz.func56, Tryz.ntmps56
  go_wp2_with (go_at_call 74; (with_reducible refine (R _).mono ?_); rintro e w' ⟨rfl, rfl⟩)
  go_at_call 75
  refine (C _).mono ?_
  rintro e w2 ⟨rfl, hb⟩
  have hb1 : Below (w.heap.size + 1) (w.alloc (.cells zc 87)) w2 := hb.mono (by simp)
  have HB1 : Hid (Below (w.heap.size + 1) (w.alloc (.cells zc 87)) w2) := hb1
  have hz : w.heap.size < w2.heap.size := by have := hb1.size; simp at this; omega
  clear hb hb1 C R
  go_wp2_with fail
  go_at_call 48
  refine (E _).mono ?_
  rintro e w3 ⟨rfl, hc⟩
  have hf := fun j => flit_cells (w := w2) (w1 := w3) D (hc.mono (by simp)) j
  have hb := HB1.out.trans ((below_box (w := w2) (flc D) 87 (hc.mono (by simp))).mono (by omega))
  obtain ⟨z0, z1, z2, z3, z4, z5, z6, z7, f0, f1, f2, f3, f4, f5, f6, f7⟩ := zeros hb
  have HBW : Hid (Below w.heap.size w w3) := below_box _ _ hb
  have d0 : w3.cell? ⟨w2.heap.size, 0, none⟩ = some (.int .i64 D.k) := hf 0
  have d1 : w3.cell? ⟨w2.heap.size, 1, none⟩ = some (.int .i64 D.s) := hf 1
  have d2 : w3.cell? ⟨w2.heap.size, 2, none⟩ = some (.int .i64 D.d) := hf 2
  have d3 : w3.cell? ⟨w2.heap.size, 3, none⟩ = some (.int .i64 D.q) := hf 3
  have d4 : w3.cell? ⟨w2.heap.size, 4, none⟩ = some (.int .i64 D.l) := hf 4
  have d5 : w3.cell? ⟨w2.heap.size, 5, none⟩ = some (.bool D.m) := hf 5
  have d6 : w3.cell? ⟨w2.heap.size, 6, none⟩ = some (.bool D.c) := hf 6
  have d7 : w3.cell? ⟨w2.heap.size, 7, none⟩ = some (.string D.x) := hf 7
  have g1 : ¬ w2.heap.size = w.heap.size := by omega
  have g2 : ¬ w.heap.size = w2.heap.size := by omega
  clear hc hb hf E
  go_wp2
  exact bodyPost_ret (v := .tuple #[.agg #[.int .i64 0, .int .i64 0, .int .i64 0, .int .i64 0, .int .i64 0, .bool false, .bool false, .string ⟨#[]⟩], .int .i64 2]) (by simp [results, Tryz.results56, go_sem, z0, z1, z2, z3, z4, z5, z6, z7]) rfl ⟨rfl, below_eight HBW.out _ _ _ _ _ _ _ _⟩

set_option maxHeartbeats 800000 in
theorem read_yes (W : Nat) (D : Fl) (a : Nat) (e1 : Int) (hW : W < 18446744073709551616) (hr : sealN W = W) (h : e1 = 0) (hne : a = W)
    (C : ∀ w, Calls Tryz.prog 75 #[.int .u64 W] w fun e w' => e = .returned (flv D) ∧ Below w.heap.size w w')
    (E : ∀ w, Calls Tryz.prog 48 #[flv D] w fun e w' => e = .returned (.tuple #[.int .u64 (a : Int), .int .i64 e1]) ∧ Below w.heap.size w w') (w : World) :
    Calls Tryz.prog 56 #[.int .u64 W] w fun e w' => e = .returned (.tuple #[flv D, .int .i64 0]) ∧ Below w.heap.size w w' := by
  have R := fun w => right_any W hW w
  rw [decide_eq_true hr] at R
  clear hr
  subst h
  subst hne
  simp only [flv, flc] at *
  go_enter Tryz.func56, Tryz.ntmps56
  go_wp2_with (go_at_call 74; (with_reducible refine (R _).mono ?_); rintro e w' ⟨rfl, rfl⟩)
  go_at_call 75
  refine (C _).mono ?_
  rintro e w2 ⟨rfl, hb⟩
  have hb1 : Below (w.heap.size + 1) (w.alloc (.cells zc 87)) w2 := hb.mono (by simp)
  have HB1 : Hid (Below (w.heap.size + 1) (w.alloc (.cells zc 87)) w2) := hb1
  have hz : w.heap.size < w2.heap.size := by have := hb1.size; simp at this; omega
  clear hb hb1 C R
  go_wp2_with fail
  go_at_call 48
  refine (E _).mono ?_
  rintro e w3 ⟨rfl, hc⟩
  have hf := fun j => flit_cells (w := w2) (w1 := w3) D (hc.mono (by simp)) j
  have hb := HB1.out.trans ((below_box (w := w2) (flc D) 87 (hc.mono (by simp))).mono (by omega))
  obtain ⟨z0, z1, z2, z3, z4, z5, z6, z7, f0, f1, f2, f3, f4, f5, f6, f7⟩ := zeros hb
  have HBW : Hid (Below w.heap.size w w3) := below_box _ _ hb
  have d0 : w3.cell? ⟨w2.heap.size, 0, none⟩ = some (.int .i64 D.k) := hf 0
  have d1 : w3.cell? ⟨w2.heap.size, 1, none⟩ = some (.int .i64 D.s) := hf 1
  have d2 : w3.cell? ⟨w2.heap.size, 2, none⟩ = some (.int .i64 D.d) := hf 2
  have d3 : w3.cell? ⟨w2.heap.size, 3, none⟩ = some (.int .i64 D.q) := hf 3
  have d4 : w3.cell? ⟨w2.heap.size, 4, none⟩ = some (.int .i64 D.l) := hf 4
  have d5 : w3.cell? ⟨w2.heap.size, 5, none⟩ = some (.bool D.m) := hf 5
  have d6 : w3.cell? ⟨w2.heap.size, 6, none⟩ = some (.bool D.c) := hf 6
  have d7 : w3.cell? ⟨w2.heap.size, 7, none⟩ = some (.string D.x) := hf 7
  have g1 : ¬ w2.heap.size = w.heap.size := by omega
  have g2 : ¬ w.heap.size = w2.heap.size := by omega
  clear hc hb hf E
  go_wp2
  exact bodyPost_ret (v := .tuple #[.agg #[.int .i64 D.k, .int .i64 D.s, .int .i64 D.d, .int .i64 D.q, .int .i64 D.l, .bool D.m, .bool D.c, .string D.x], .int .i64 0]) (by simp [results, Tryz.results56, go_sem, z0, z1, z2, z3, z4, z5, z6, z7]) rfl ⟨rfl, below_eight HBW.out _ _ _ _ _ _ _ _⟩

set_option maxHeartbeats 800000 in
theorem read_sum (W : Nat) (hW : W < 18446744073709551616) (hr : sealN W ≠ W) (w : World) :
    Calls Tryz.prog 56 #[.int .u64 W] w fun e w' => e = .returned (.tuple #[.agg zc, .int .i64 3]) ∧ Below w.heap.size w w' := by
  have R := fun w => right_any W hW w
  rw [decide_eq_false hr] at R
  clear hr
  have hb : Below (w.heap.size + 1) (w.alloc (.cells zc 87)) (w.alloc (.cells zc 87)) := Below.refl _ _
  have HBW : Hid (Below w.heap.size w (w.alloc (.cells zc 87))) := below_box _ _ hb
  clear hb
  go_enter Tryz.func56, Tryz.ntmps56
  go_wp2_with (go_at_call 74; (with_reducible refine (R _).mono ?_); rintro e w' ⟨rfl, rfl⟩)
  exact bodyPost_ret (v := .tuple #[.agg #[.int .i64 0, .int .i64 0, .int .i64 0, .int .i64 0, .int .i64 0, .bool false, .bool false, .string ⟨#[]⟩], .int .i64 3]) (by simp [results, Tryz.results56, go_sem]) rfl ⟨rfl, HBW.out⟩

theorem fread_any (W : Nat) (hW : W < 18446744073709551616) (w : World) :
    Calls Tryz.prog 56 #[.int .u64 W] w fun e w' => e = .returned (.tuple #[flv (readR W).1, .int .i64 (readR W).2]) ∧ Below w.heap.size w w' := by
  unfold readR
  by_cases h1 : sealN W = W
  · rw [if_pos h1]
    have C := fun w => unpack1_any W hW w
    have E := fun w => fwrite_any (dec W) w
    by_cases h2 : (dec W).wordR = (W, 0)
    · rw [if_pos h2]
      rw [h2] at E
      exact read_yes W (dec W) W 0 hW h1 rfl rfl C E w
    · rw [if_neg h2]
      by_cases h3 : (dec W).wordR.2 = 0
      · exact read_ne W (dec W) (dec W).wordR.1 (dec W).wordR.2 hW h1 h3 (fun h => h2 (Prod.ext h h3)) C E w
      · exact read_err W (dec W) (dec W).wordR.1 (dec W).wordR.2 hW h1 h3 C E w
  · rw [if_neg h1]
    exact read_sum W hW h1 w
end Go.Proofs.YtoejpngdkcnnhaaGreat

namespace Go.Proofs.YtoejpngdkcnnhaaGreat
open Go.RowKit

def RPost (w : World) (D : Fl) (a W : Nat) (e1 : Int) (e : Ending) (w' : World) : Prop :=
  e = .returned (.tuple (if a = W ∧ e1 = 0 then #[flv D, .int .i64 0] else #[.agg zc, .int .i64 2])) ∧ Below w.heap.size w w'

/-- The cells of a block of eight, none frozen. -/
theorem eight_at {w2 : World} {b : Nat} {f : Fl} (h : w2.heap[b]? = some (.cells (flc f) 87 (0, 0))) (j : Nat) : w2.cell? ⟨b, j, none⟩ = (flc f)[j]? ∧ w2.frozen? ⟨b, j, none⟩ = false := by
  refine ⟨cell_of h j, ?_⟩
  simp [World.frozen?, h]

theorem six_set {w2 : World} {b : Nat} (h : w2.heap[b]? = some (.cells (flc ⟨1, 0, 0, 0, 0, false, false, ⟨#[]⟩⟩) 87 (0, 0))) (a1 a2 a3 a4 : Int) (m c : Bool) :
    ((((((w2.setCell ⟨b, 1, none⟩ (.int .i64 a1)).setCell ⟨b, 2, none⟩ (.int .i64 a2)).setCell ⟨b, 3, none⟩ (.int .i64 a3)).setCell ⟨b, 4, none⟩ (.int .i64 a4)).setCell ⟨b, 5, none⟩ (.bool m)).setCell ⟨b, 6, none⟩ (.bool c)).heap[b]? =
      some (.cells (flc ⟨1, a1, a2, a3, a4, m, c, ⟨#[]⟩⟩) 87 (0, 0)) := by
  simp [World.setCell, Array.getElem?_modify, h]

theorem below_six {w w2 : World} {B : Nat} (h : Below (B + 1) w w2) (v1 v2 v3 v4 v5 v6 : Value) :
    Below (B + 1) w ((((((w2.setCell ⟨B + 1, 1, none⟩ v1).setCell ⟨B + 1, 2, none⟩ v2).setCell ⟨B + 1, 3, none⟩ v3).setCell ⟨B + 1, 4, none⟩ v4).setCell ⟨B + 1, 5, none⟩ v5).setCell ⟨B + 1, 6, none⟩ v6) :=
  (((((h.setCell (Nat.le_refl _) _).setCell (Nat.le_refl _) _).setCell (Nat.le_refl _) _).setCell (Nat.le_refl _) _).setCell (Nat.le_refl _) _).setCell (Nat.le_refl _) _

end Go.Proofs.YtoejpngdkcnnhaaGreat

namespace Go.Proofs.YtoejpngdkcnnhaaGreat
open Go.RowKit

theorem one_set {w2 : World} {b : Nat} {k : Int} (h : w2.heap[b]? = some (.cells (flc ⟨k, 0, 0, 0, 0, false, false, ⟨#[]⟩⟩) 87 (0, 0))) (X : ByteArray) :
    (w2.setCell ⟨b, 7, none⟩ (.string X)).heap[b]? = some (.cells (flc ⟨k, 0, 0, 0, 0, false, false, X⟩) 87 (0, 0)) := by
  simp [World.setCell, Array.getElem?_modify, h]

theorem vals_getD (W : Nat) : ∀ (n : Nat) (a : Int) (j : Nat), j < n → (vals W a (List.replicate n 8)).getD j 0 = getV W (a + 8 * j) 8
  | 0, _, _, h => by omega
  | n + 1, a, 0, _ => by
    rw [List.replicate_succ, vals]
    simp
  | n + 1, a, j + 1, h => by
    rw [List.replicate_succ, vals]
    have := vals_getD W n (a + 8) j (by omega)
    simp only [List.getD_cons_succ]
    rw [this]
    congr 1
    omega

end Go.Proofs.YtoejpngdkcnnhaaGreat

namespace Go.Proofs.YtoejpngdkcnnhaaGreat
open Go.RowKit

theorem word_len {f : Fl} (h : f.rightB = true) (h1 : f.k ≠ 1) : getV f.word 2 3 = f.x.size := by
  have hv := word_vals h
  unfold Fl.sizes Fl.vals at hv
  rw [if_neg h1, if_neg h1, ds, YtoejpngdkcnnhaaGreat.vals, YtoejpngdkcnnhaaGreat.vals] at hv
  exact (List.cons.inj (List.cons.inj hv).2).1

theorem right_k {f : Fl} (h : f.rightB = true) : f.k = 1 ∨ f.k = 2 ∨ f.k = 3 := by
  rcases right_forms h with ⟨h1, _⟩ | ⟨h1, _⟩
  · exact Or.inl h1
  · exact Or.inr h1

theorem right_size {f : Fl} (h : f.rightB = true) (h1 : f.k ≠ 1) : f.x.size ≤ 6 := by
  rcases right_forms h with ⟨h2, _⟩ | ⟨_, _, _, _, _, _, _, h2⟩
  · exact absurd h2 h1
  · exact h2

theorem wordR_yes {f : Fl} {W : Nat} {e : Int} (h : f.wordR = (W, e)) (he : e = 0) : f.rightB = true ∧ f.word = W := by
  unfold Fl.wordR at h
  by_cases h3 : f.rightB = true
  · rw [if_pos h3] at h
    exact ⟨h3, (Prod.mk.inj h).1⟩
  · rw [if_neg h3] at h
    have := (Prod.mk.inj h).2
    omega

theorem wordR_yes2 {f : Fl} (h : f.wordR.2 = 0) : f.rightB = true ∧ f.word = f.wordR.1 := wordR_yes (W := f.wordR.1) (e := f.wordR.2) rfl h

/-- Where dec's flit and the other one are both no flit of W. -/
theorem readR_two {W : Nat} (hr : sealN W = W) (h : (dec W).wordR ≠ (W, 0)) : readR W = (zf, 2) := by
  unfold readR
  rw [if_pos hr, if_neg h]
theorem readR_yes {W : Nat} (hr : sealN W = W) : (if (dec W).wordR.1 = W ∧ (dec W).wordR.2 = 0 then (dec W, (0 : Int)) else (zf, 2)) = readR W := by
  unfold readR
  rw [if_pos hr]
  by_cases h : (dec W).wordR = (W, 0)
  · rw [if_pos h, if_pos ⟨by rw [h], by rw [h]⟩]
  · rw [if_neg h, if_neg (fun c => h (Prod.ext c.1 c.2))]

end Go.Proofs.YtoejpngdkcnnhaaGreat

namespace Go.Proofs.YtoejpngdkcnnhaaGreat
open Go.RowKit

/-- A parcel's cells. -/
abbrev pcc (s : Int) (c : Bool) (v : Value) (x : ByteArray) : Array Value := #[.int .i64 s, .bool c, v, .string x]
abbrev pcv (s : Int) (c : Bool) (v : Value) (x : ByteArray) : Value := .agg (pcc s c v x)
/-- A row of pairs, cell by cell. -/
def pc (l : List (Int × Int)) : List Value := l.flatMap fun x => [.int .i64 x.1, .int .i64 x.2]
theorem pc_len (l : List (Int × Int)) : (pc l).length = l.length * 2 := by
  induction l with
  | nil => rfl
  | cons x l ih => simp only [pc, List.flatMap_cons] at ih ⊢; rw [List.length_append, ih]; simp; omega
theorem pc_snoc (l : List (Int × Int)) (a b : Int) : pc l ++ [.int .i64 a, .int .i64 b] = pc (l ++ [(a, b)]) := by simp [pc]
theorem pc_at : ∀ (l : List (Int × Int)) (k : Nat), k < l.length → (pc l)[k * 2]? = some (.int .i64 (l.getD k (0, 0)).1) ∧ (pc l)[k * 2 + 1]? = some (.int .i64 (l.getD k (0, 0)).2) := by
  intro l
  induction l with
  | nil => intro k h; simp at h
  | cons x l ih =>
    intro k h
    cases k with
    | zero => simp [pc]
    | succ k =>
      have := ih k (by simpa using h)
      have e : pc (x :: l) = .int .i64 x.1 :: .int .i64 x.2 :: pc l := by simp [pc]
      rw [e, show (k + 1) * 2 = k * 2 + 1 + 1 by omega, show k * 2 + 1 + 1 + 1 = (k * 2 + 1) + 1 + 1 by omega]
      simp only [List.getElem?_cons_succ, List.getD_cons_succ]
      exact this
/-- One pair of a row that is read. -/
theorem Rd.pair {w : World} {a : Option Addr} {l : List (Int × Int)} {k : Nat} (h : Rd w a (pc l)) (hk : k < l.length) : ∃ g o, a = some ⟨g, o, none⟩ ∧ g < w.heap.size ∧ w.cell? ⟨g, o + k * 2, none⟩ = some (.int .i64 (l.getD k (0, 0)).1) ∧ w.cell? ⟨g, o + k * 2 + 1, none⟩ = some (.int .i64 (l.getD k (0, 0)).2) := by
  obtain ⟨h1, h2⟩ := pc_at l k hk
  obtain ⟨g, o, rfl, hg, c1⟩ := h _ _ h1
  obtain ⟨g', o', e, _, c2⟩ := h _ _ h2
  simp only [Option.some.injEq, Addr.mk.injEq] at e
  obtain ⟨rfl, rfl, _⟩ := e
  exact ⟨g, o, rfl, hg, c1, by rw [Nat.add_assoc]; exact c2⟩

/-- A block holds these cells. -/
def Bk (v : World) (b : Nat) (cs : Array Value) (t : TypeId) : Prop := v.heap[b]? = some (.cells cs t (0, 0))
theorem Bk.cell {v : World} {b : Nat} {cs : Array Value} {t : TypeId} (h : Bk v b cs t) (j : Nat) : v.cell? ⟨b, j, none⟩ = cs[j]? := cell_of h j
theorem Bk.free {v : World} {b : Nat} {cs : Array Value} {t : TypeId} (h : Bk v b cs t) (j : Nat) : v.frozen? ⟨b, j, none⟩ = false := by
  unfold Bk at h
  simp [World.frozen?, h]
theorem Bk.lt {v : World} {b : Nat} {cs : Array Value} {t : TypeId} (h : Bk v b cs t) : b < v.heap.size := lt_of_heap h
theorem Bk.below {v v' : World} {B b : Nat} {cs : Array Value} {t : TypeId} (h : Bk v b cs t) (hb : Below B v v') (hB : b < B) : Bk v' b cs t := by
  unfold Bk
  rw [hb.block b hB]
  exact h
theorem Bk.next {v v' : World} {b : Nat} {cs : Array Value} {t : TypeId} (h : Bk v b cs t) (hb : Below v.heap.size v v') : Bk v' b cs t := h.below hb h.lt
theorem Bk.new (w : World) (cs : Array Value) (t : TypeId) : Bk (w.alloc (.cells cs t)) w.heap.size cs t := heap_alloc_new w _
theorem Bk.alloc {v : World} {b : Nat} {cs : Array Value} {t : TypeId} (h : Bk v b cs t) (o : Obj) : Bk (v.alloc o) b cs t := h.next ((Below.refl _ _).alloc (Nat.le_refl _) o)
theorem Bk.drew {v : World} {b : Nat} {cs : Array Value} {t : TypeId} (h : Bk v b cs t) : Bk v.drew b cs t := h
theorem Bk.far {v : World} {b k j : Nat} {cs : Array Value} {t : TypeId} {x : Value} (h : Bk v b cs t) (hne : b ≠ k) : Bk (v.setCell ⟨k, j, none⟩ x) b cs t := by
  unfold Bk
  rw [Below.heap_setCell v ⟨k, j, none⟩ _ b hne]
  exact h
theorem Bk.two {v : World} {b : Nat} {s : Int} {c : Bool} {u : Value} {x : ByteArray} {t : TypeId} (h : Bk v b (pcc s c u x) t) (u' : Value) : Bk (v.setCell ⟨b, 2, none⟩ u') b (pcc s c u' x) t := by
  unfold Bk at h ⊢
  simp [World.setCell, Array.getElem?_modify, h]
theorem Bk.kept {v v' : World} {b : Nat} {cs : Array Value} {t : TypeId} {r : Option Nat} (h : Bk v b cs t) (hg : v.grownBy v' r) (hne : r ≠ some b) : Bk v' b cs t := by
  unfold Bk
  rw [hg.block b h.lt (fun e => hne e.symm)]
  exact h

theorem below_four {w v : World} {B b : Nat} (h : Below B w v) (hb : B ≤ b) (x0 x1 x2 x3 : Value) : Below B w ((((v.setCell ⟨b, 0, none⟩ x0).setCell ⟨b, 1, none⟩ x1).setCell ⟨b, 2, none⟩ x2).setCell ⟨b, 3, none⟩ x3) :=
  (((h.setCell hb _).setCell hb _).setCell hb _).setCell hb _

/-- Rows of the call's own, of elements of k cells. -/
def OwnK (e : TypeId) (k : Nat) (w : World) (B : Nat) (v : Value) (n : Nat) (cs : List Value) : Prop := w.ownsRow B e k v n cs
theorem OwnK.nil (w : World) (B : Nat) (e : TypeId) (k : Nat) : OwnK e k w B (.slice none 0 0) 0 [] := World.ownsRow_nil w B e k
theorem OwnK.below {e : TypeId} {k : Nat} {w w' : World} {B n : Nat} {v : Value} {cs : List Value} (h : OwnK e k w B v n cs) (hb : Below w.heap.size w w') : OwnK e k w' B v n cs := by
  refine ⟨h.1, ?_⟩
  rcases h.2 with hn | ⟨g, cap, cur, e, hg, hh, r⟩
  · exact Or.inl hn
  · exact Or.inr ⟨g, cap, cur, e, hg, by rw [hb.block g (lt_of_heap hh)]; exact hh, r⟩
theorem OwnK.far {e : TypeId} {k : Nat} {w : World} {B n b j : Nat} {v x : Value} {cs : List Value} (h : OwnK e k w B v n cs) (hb : b < B) : OwnK e k (w.setCell ⟨b, j, none⟩ x) B v n cs := by
  refine ⟨h.1, ?_⟩
  rcases h.2 with hn | ⟨g, cap, cur, e, hg, hh, r⟩
  · exact Or.inl hn
  · exact Or.inr ⟨g, cap, cur, e, hg, by rw [Below.heap_setCell w ⟨b, j, none⟩ _ g (by show g ≠ b; omega)]; exact hh, r⟩
theorem OwnK.mono {e : TypeId} {k : Nat} {w : World} {B B' n : Nat} {v : Value} {cs : List Value} (h : OwnK e k w B v n cs) (hb : B' ≤ B) : OwnK e k w B' v n cs := by
  refine ⟨h.1, ?_⟩
  rcases h.2 with hn | ⟨g, cap, cur, e, hg, r⟩
  · exact Or.inl hn
  · exact Or.inr ⟨g, cap, cur, e, Nat.le_trans hb hg, r⟩
theorem OwnK.rd {t : TypeId} {k : Nat} {w : World} {B n : Nat} {v : Value} {cs : List Value} (h : OwnK t k w B v n cs) (_hk : 0 < k) : ∃ a cap, v = .slice a n cap ∧ n ≤ cap ∧ cap ≤ maxLen ∧ Rd w a cs := by
  obtain ⟨h1, h2⟩ := h
  rcases h2 with ⟨rfl, h2⟩ | ⟨g, cap, cur, rfl, hg, hh, hc1, hc2, hc3, hc4⟩
  · refine ⟨none, 0, by rw [h2], by omega, by simp [maxLen], fun j v hj => ?_⟩
    rw [h2, Nat.zero_mul] at h1
    have : cs = [] := List.eq_nil_of_length_eq_zero h1
    subst this
    cases hj
  · refine ⟨_, _, rfl, hc1, hc2, fun j v hj => ⟨g, 0, rfl, lt_of_heap hh, ?_⟩⟩
    have hlt : j < n * k := by
      have := (List.getElem?_eq_some_iff.mp hj).1
      rw [← h1]; exact this
    rw [Nat.zero_add, cell_of hh]
    have : cur[j]? = (List.take (n * k) cur.toList)[j]? := by rw [List.getElem?_take_of_lt hlt]; simp
    rw [this, hc4]
    exact hj
/-- Its block: of the call's own, and of its elements' type. -/
theorem OwnK.lt {t : TypeId} {k : Nat} {w : World} {B n : Nat} {v : Value} {cs : List Value} (h : OwnK t k w B v n cs) {q : Nat} (hq : v.ownBlock = some q) : B ≤ q ∧ q < w.heap.size := World.ownsRow.lt h q hq
theorem OwnK.ne {e t : TypeId} {k : Nat} {w : World} {B n b : Nat} {v : Value} {l : List Value} {cs : Array Value} (h : OwnK e k w B v n l) (hg : Bk w b cs t) (hne : e ≠ t) : v.ownBlock ≠ some b := by
  rcases h.2 with ⟨rfl, _⟩ | ⟨g', cap, cur, rfl, _, hh, _⟩
  · simp [Value.ownBlock]
  · intro he
    have : g' = b := by simpa [Value.ownBlock] using he
    subst this
    unfold Bk at hg
    rw [hg] at hh
    injection hh with hh
    injection hh with _ ht
    exact hne ht.symm

/-- At a step of a region that draws: one element more. -/
theorem step_app_k {P : Program} {ops : Array Oper} {o : Oper} {a : Act} {K : Act → World → Prop} {Q : Exit → Act → World → Prop} {E : Prop} (hgd : o.guard = none) (s x : Operand) (t e : TypeId) (i : TypeInfo) (z : Value) (k bytes : Nat)
    (ho : o.op = .call { callee := .builtin .append, args := #[s, x], argTypes := #[t, t] })
    (ht : P.underlying t = some (.slice e)) (hi : P.info? e = some i) (hz : i.zero = some z) (h1 : i.size = k) (hby : i.bytes = bytes) (hzs : z.cells.size = k) (hk0 : 0 < k) (hb8 : bytes ≤ 64)
    (B : Nat) (w : World) (v : Value) (n : Nat) (cs news : List Value) (g : Nat) (hs : a.eval s = v) (hown : OwnK e k w B v n cs) (hx : a.eval x = .slice (some ⟨g, 0, none⟩) 1 1)
    (hl : news.length = k) (hn : ∀ j u, news[j]? = some u → w.cell? ⟨g, j, none⟩ = some u) (hone : ∀ u ∈ news, u.oneCell' = true) (hlen : n ≤ 1000000) (hbase : B ≤ w.heap.size)
    (h : ∀ v' w', OwnK e k w' B v' (n + 1) (cs ++ news) → w.grownBy w' v.ownBlock → K (a.put o.dst v') w') :
    if Region.wanted o (yielded ops a.tmps) = true then Oper.wp P o a w K Q else E := by
  have hw : Region.wanted o (yielded ops a.tmps) = true := by simp [Region.wanted, hgd]
  rw [if_pos hw]
  obtain ⟨v', w', hrun, h2, h3, _, _⟩ := run_append_own_at (P := P) w B t o.type e i z k bytes ht hi hz h1 hby hzs hk0 v n cs hown ⟨g, 0, none⟩ 1 1 news (by rw [hl, Nat.one_mul])
    (fun j u hj => by rw [WideShapes.add_plain, Nat.zero_add]; exact hn j u hj) hone (by unfold maxLen; omega) (by have : (n + 1) * bytes ≤ (n + 1) * 64 := Nat.mul_le_mul_left _ hb8; omega) hbase
  unfold Oper.wp
  simp [execOp, ho, resolve, invoke, builtin, hs, hx, hrun, Result.andThen]
  exact h v' w' h2 h3
end Go.Proofs.YtoejpngdkcnnhaaGreat

namespace Go.Proofs.YtoejpngdkcnnhaaGreat

section
variable {P : Program} {ops : Array Oper} {Q : Exit → Act → World → Prop} {md : Region.Mode} {S : World → Prop} {st : Nat}

/-- Whatever order is picked from here on; S holds behind every operation till 'st' has come up. -/
def wpAnyG (P : Program) (md : Region.Mode) (ops : Array Oper) (Q : Exit → Act → World → Prop) (S : World → Prop) (st : Nat) : Nat → Array Bool → Act → World → Prop
  | 0, listed, a, w => Region.ready md ops listed = [] ∧ Q .normal a w
  | fuel + 1, listed, a, w =>
    (Region.ready md ops listed = [] → Q .normal a w) ∧
    ∀ i ∈ Region.ready md ops listed, wpOp P ops Q i (fun a' w' => ((listed.setIfInBounds i true).getD st true = true ∨ S w') ∧ wpAnyG P md ops Q S st fuel (listed.setIfInBounds i true) a' w') a w

theorem wpAny_of_G : ∀ (fuel : Nat) (listed : Array Bool) (a : Act) (w : World), wpAnyG P md ops Q S st fuel listed a w → wpAny P md ops Q fuel listed a w
  | 0, _, _, _, h => h
  | fuel + 1, _, _, _, h => ⟨h.1, fun i hi => wpOp_mono (fun a' w' h' => wpAny_of_G fuel _ a' w' h'.2) (h.2 i hi)⟩

/-- One waits for the other: from the first of a path to its last; none but the first has come up. -/
def pathB (md : Region.Mode) (ops : Array Oper) (listed : Array Bool) : List Nat → Bool
  | x :: y :: r => ((ops[y]?).any fun o => o.after.any fun e => Region.binds md e && e.on == x) && (!(listed.getD y true) && pathB md ops listed (y :: r))
  | _ => true

/-- While the first of a path has not come up, none of it comes up next. -/
theorem path_keep {listed : Array Bool} {j : Nat} : ∀ (r : List Nat) (x : Nat), pathB md ops listed (x :: r) = true → listed.getD x true = false → j ∈ Region.ready md ops listed → j ≠ x →
    (∀ y ∈ r, j ≠ y) ∧ pathB md ops (listed.setIfInBounds j true) (x :: r) = true
  | [], _, _, _, _, _ => ⟨fun y hy => by (cases hy), rfl⟩
  | y :: r, x, h, hx, hj, hne => by
    unfold pathB at h
    simp only [Bool.and_eq_true, Bool.not_eq_true'] at h
    obtain ⟨h1, h2, h3⟩ := h
    have hjy : j ≠ y := by
      rintro rfl
      obtain ⟨_, oj, hoj, hall⟩ := mem_ready.1 hj
      rw [hoj] at h1
      simp only [Option.any_some, Array.any_eq_true'] at h1
      obtain ⟨e, he, hb⟩ := h1
      simp only [Bool.and_eq_true, beq_iff_eq] at hb
      have hl := hall e he hb.1
      rw [hb.2] at hl
      rcases Nat.lt_or_ge x listed.size with h' | h'
      · simp [h'] at hx hl; rw [hx] at hl; cases hl
      · simp [Array.getElem?_eq_none h'] at hl
    obtain ⟨k1, k2⟩ := path_keep r y h3 h2 hj hjy
    refine ⟨fun z hz => ?_, ?_⟩
    · rcases List.mem_cons.1 hz with rfl | hz
      · exact hjy
      · exact k1 z hz
    · unfold pathB
      rw [getD_set_ne true (Ne.symm (Ne.symm hjy))]
      simp only [Bool.and_eq_true, Bool.not_eq_true']
      exact ⟨h1, h2, k2⟩

theorem wpAnyG_first {i : Nat} {oi : Oper} {v : Value} (hi : ops[i]? = some oi) (hsel : ∀ (j : Nat) (o : Oper) cs b, ops[j]? = some o → o.op ≠ .select cs b)
    (hQ : ∀ c a w, Q (.panic c) (a.put oi.dst v) w → Q (.panic c) a w) (r : List Nat) (hst : r.getLast? = some st) :
    ∀ (fuel : Nat) (listed : Array Bool) (a : Act) (w : World),
      (∀ j oj, ops[j]? = some oj → j ≠ i → listed.getD j true = false → (∀ e ∈ oj.after, Region.binds md e = true → e.on ≠ i) → oi.apart ops oj = true) →
      i ∈ Region.ready md ops listed → pathB md ops listed (i :: r) = true → listed.getD st true = false → i ≠ st → YieldsIf P ops S oi v a → S w →
      wpAnyG P md ops Q S st fuel (listed.setIfInBounds i true) (a.put oi.dst v) w → wpAnyG P md ops Q S st (fuel + 1) listed a w := by
  have hmem : st ∈ r := by
    have := List.mem_of_getLast? hst
    exact this
  intro fuel
  induction fuel with
  | zero =>
    intro listed a w _ hr _ _ _ hy hS H
    refine ⟨fun h => (by rw [h] at hr; cases hr), fun j hj => ?_⟩
    by_cases hji : j = i
    · subst hji; exact hy.wpOp hi hS ⟨Or.inr hS, H⟩
    · have := ready_mono hj hji
      rw [H.1] at this
      cases this
  | succ fuel ih =>
    intro listed a w hfree hr hp hs hist hy hS H
    refine ⟨fun h => (by rw [h] at hr; cases hr), fun j hj => ?_⟩
    by_cases hji : j = i
    · subst hji; exact hy.wpOp hi hS ⟨Or.inr hS, H⟩
    · have h1 := H.2 j (ready_mono hj hji)
      obtain ⟨hjun, oj, hoj, hall⟩ := mem_ready.1 hj
      have hiun : listed.getD i true = false := (mem_ready.1 hr).1
      have hnot : ∀ e ∈ oj.after, Region.binds md e = true → e.on ≠ i := fun e he hb heq => by
        have h1 := hall e he hb
        have h0 := (mem_ready.1 hr).1
        rw [heq] at h1
        rcases Nat.lt_or_ge i listed.size with h' | h'
        · simp [h'] at h0 h1; rw [h0] at h1; cases h1
        · simp [Array.getElem?_eq_none h'] at h1
      obtain ⟨hkeep, hp'⟩ := path_keep r i hp hiun hj hji
      have hjst : j ≠ st := hkeep st hmem
      have hs' : (listed.setIfInBounds j true).getD st true = false := by rw [getD_set_ne true hjst]; exact hs
      have h2 := wpOp_putIf hoj (hfree j oj hoj hji hjun hnot) (fun cs b => hsel i oi cs b hi) (fun cs b => hsel j oj cs b hoj) hQ hy h1
      have hfree' : ∀ k ok, ops[k]? = some ok → k ≠ i → (listed.setIfInBounds j true).getD k true = false →
          (∀ e ∈ ok.after, Region.binds md e = true → e.on ≠ i) → oi.apart ops ok = true := fun k ok hk hki hun hno => by
        refine hfree k ok hk hki ?_ hno
        by_cases hjk : j = k
        · subst hjk; exact hjun
        · rw [getD_set_ne true hjk] at hun; exact hun
      refine wpOp_mono (fun a' w' h3 => ?_) h2
      have hS' : S w' := by
        rcases h3.2.1 with h4 | h4
        · rw [getD_set_ne true hjst, getD_set_ne true hist] at h4
          rw [hs] at h4
          cases h4
        · exact h4
      refine ⟨Or.inr hS', ih (listed.setIfInBounds j true) a' w' hfree' (ready_mono hr (Ne.symm hji)) hp' hs' hist h3.1 hS' ?_⟩
      rw [Array.setIfInBounds_comm _ _ hji]
      exact h3.2.2

/-- Take number i first: it yields v in every world that meets S, and 'st' waits for it, by a path. -/
theorem wpAnyG_take (r : List Nat) (d : Option Tmp) {i : Nat} {oi : Oper} {v : Value} {fuel : Nat} {listed : Array Bool} {a : Act} {w : World} (hi : ops[i]? = some oi) (hd : oi.dst = d)
    (hs : Region.noSelect ops = true) (hf : Region.free md ops listed i = true) (hr : (Region.ready md ops listed).contains i = true)
    (hp : (pathB md ops listed (i :: r) && (r.getLast? == some st && (!(listed.getD st true) && !(i == st)))) = true)
    (hQ : ∀ c a w, Q (.panic c) (a.put d v) w → Q (.panic c) a w) (hy : YieldsIf P ops S oi v a) (hS : S w)
    (h : wpAnyG P md ops Q S st fuel (listed.setIfInBounds i true) (a.put d v) w) : wpAnyG P md ops Q S st (fuel + 1) listed a w := by
  subst hd
  simp only [Bool.and_eq_true, Bool.not_eq_true', beq_iff_eq, beq_eq_false_iff_ne] at hp
  obtain ⟨h1, h2, h3, h4⟩ := hp
  exact wpAnyG_first hi (Region.noSelect_spec hs) hQ r h2 fuel listed a w (Region.free_spec hi hf) (by simpa using hr) h1 h3 h4 hy hS h

/-- Whichever comes up: here it is one alone. -/
theorem wpAnyG_one {i : Nat} {o : Oper} {fuel : Nat} {listed : Array Bool} {a : Act} {w : World} (hr : Region.ready md ops listed = [i]) (ho : ops[i]? = some o)
    (h : ∀ K' : Act → World → Prop, Shut (∀ a w, ((listed.setIfInBounds i true).getD st true = true ∨ S w) → wpAnyG P md ops Q S st fuel (listed.setIfInBounds i true) a w → K' a w) → if Region.wanted o (yielded ops a.tmps) = true then Oper.wp P o a w K' Q else K' (a.put o.dst undef) w) :
    wpAnyG P md ops Q S st (fuel + 1) listed a w := by
  refine ⟨fun h0 => (by rw [hr] at h0; cases h0), fun j hj => ?_⟩
  rw [hr, List.mem_singleton] at hj
  subst hj
  exact wpOp_step ho (fun K' hK => h K' (fun a w hS hW => hK a w ⟨hS, hW⟩))
theorem wpAnyG_done {listed : Array Bool} {a : Act} {w : World} (hr : Region.ready md ops listed = []) (h : Q .normal a w) : ∀ fuel, wpAnyG P md ops Q S st fuel listed a w
  | 0 => ⟨hr, h⟩
  | _ + 1 => ⟨fun _ => h, by rw [hr]; simp⟩
/-- The beginning. -/
theorem wp_region_G (S : World → Prop) (st : Nat) {id : Nat} {a : Act} {w : World} (hm : P.follows .mixedOrders = true)
    (h : wpAnyG P .any ops Q S st ops.size (Array.replicate ops.size false) a w.drew) : (Code.region id ops true).wp P Q a w :=
  wp_region_any hm (wpAny_of_G _ _ _ _ h)
end
end Go.Proofs.YtoejpngdkcnnhaaGreat

namespace Go.Proofs.YtoejpngdkcnnhaaGreat
open Go.RowKit

section
variable {P : Program} {ops : Array Oper} {Q : Exit → Act → World → Prop} {md : Region.Mode} {S : World → Prop} {st : Nat}
theorem wpAnyG_any {fuel : Nat} {listed : Array Bool} {a : Act} {w : World} (l : List Nat) (hr : Region.ready md ops listed = l) (hl : l.isEmpty = false)
    (h : ∀ i ∈ l, wpOp P ops Q i (fun a' w' => ((listed.setIfInBounds i true).getD st true = true ∨ S w') ∧ wpAnyG P md ops Q S st fuel (listed.setIfInBounds i true) a' w') a w) : wpAnyG P md ops Q S st (fuel + 1) listed a w := by
  subst hr
  exact ⟨fun h0 => (by rw [h0] at hl; cases hl), h⟩
theorem wpOpG {i : Nat} {o : Oper} {fuel : Nat} {listed : Array Bool} {a : Act} {w : World} (ho : ops[i]? = some o)
    (h : ∀ K' : Act → World → Prop, Shut (∀ a w, ((listed.setIfInBounds i true).getD st true = true ∨ S w) → wpAnyG P md ops Q S st fuel (listed.setIfInBounds i true) a w → K' a w) → if Region.wanted o (yielded ops a.tmps) = true then Oper.wp P o a w K' Q else K' (a.put o.dst undef) w) :
    wpOp P ops Q i (fun a' w' => ((listed.setIfInBounds i true).getD st true = true ∨ S w') ∧ wpAnyG P md ops Q S st fuel (listed.setIfInBounds i true) a' w') a w :=
  wpOp_step ho (fun K' hK => h K' (fun a w hS hW => hK a w ⟨hS, hW⟩))
end
theorem mem2 {i a b : Nat} (h : i ∈ [a, b]) : i = a ∨ i = b := by simpa using h
theorem mem3 {i a b c : Nat} (h : i ∈ [a, b, c]) : i = a ∨ i = b ∨ i = c := by simpa using h
/-- A world in which the old blocks are as they were (a structure of its own: the walk's simp keeps it whole). -/
structure Gw (w : World) where
  v : World
  le : Below w.heap.size w v
instance (w : World) : Nonempty (Gw w) := ⟨⟨w, Below.refl _ _⟩⟩
theorem quiet_below {P : Program} {f : FuncId} {args : Array Value} {w : World} {p : Gw w} {v : Value}
    (h : Calls P f args p.v fun e w' => e = .returned v ∧ Below p.v.heap.size p.v w') : Calls P f args p.v fun e w'' => e = .returned v ∧ ∃ q : Gw w, w'' = q.v :=
  h.mono fun _ _ ⟨he, hb⟩ => ⟨he, ⟨_, p.le.trans (hb.mono p.le.size)⟩, rfl⟩
theorem region_gw {P : Program} {id : Nat} {Q : Exit → Act → World → Prop} {a : Act} {w : World} {l : List Oper} (hm : P.follows .mixedOrders = true) (hB : Region.lexB .any l.toArray = true)
    (h : wpQuiet P l.toArray (fun w' => ∃ p : Gw w, w' = p.v) (fun a' => ∀ w', (∃ p : Gw w, w' = p.v) → Q .normal a' w') l a) : (Code.region id l.toArray true).wp P Q a w :=
  wp_region_quiet (C := fun w' => ∃ p : Gw w, w' = p.v) hm hB ⟨⟨w.drew, (Below.refl _ _).drew⟩, rfl⟩ (by simpa using h)
theorem Gw.cell {w : World} (p : Gw w) {a : Addr} {x : Value} (hb : a.block < w.heap.size) (h : w.cell? a = some x) : p.v.cell? a = some x := (p.le.cell (p := a) hb).trans h
end Go.Proofs.YtoejpngdkcnnhaaGreat
