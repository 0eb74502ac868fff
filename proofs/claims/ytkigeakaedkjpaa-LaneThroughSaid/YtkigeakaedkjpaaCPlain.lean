/-
  A packet as words, and words as a packet, as plain mathematics (layer 10).
-/
import Derived.Test.YtkigeakaedkjpaaWord
namespace Go.Proofs.Ytkigeakaedkjpaa

/-- A piece of a text, by its bytes. -/
theorem ext_data (x : ByteArray) (a b : Nat) : (x.extract a b).data.toList = (x.data.toList.take b).drop a := by
  rw [ByteArray.data_extract, Array.toList_extract, List.extract_eq_take_drop, List.drop_take]
theorem ba_ext {x y : ByteArray} (h : x.data.toList = y.data.toList) : x = y := by
  obtain ⟨⟨a⟩⟩ := x
  obtain ⟨⟨b⟩⟩ := y
  simp only at h
  rw [h]
theorem ba_size (x : ByteArray) : x.size = x.data.toList.length := by
  show x.data.size = _
  simp
theorem app_data (x y : ByteArray) : (x ++ y).data.toList = x.data.toList ++ y.data.toList := by
  rw [ByteArray.data_append]
  simp

theorem app_empty : ByteArray.empty ++ ByteArray.empty = ByteArray.empty := ba_ext (by rw [app_data]; rfl)

/-- A parcel by value. -/
structure Pc where
  s : Int
  c : Bool
  hs : List (Int × Int)
  x : ByteArray

abbrev zp : Pc := ⟨0, false, [], ByteArray.empty⟩

def headOk (h : Int × Int) : Bool := decide (0 ≤ h.1 ∧ h.1 ≤ 4095 ∧ 0 ≤ h.2 ∧ h.2 ≤ 65535)
/-- It may be. -/
def Pc.okB (p : Pc) : Bool := (decide (0 ≤ p.s) && decide (p.s ≤ 4095)) && ((decide (1 ≤ p.hs.length) && (decide (p.hs.length ≤ 4096) && (p.c || decide (p.hs.length = 1)))) && (decide (p.x.size ≤ 64) && p.hs.all headOk))
/-- The word of a Head: the i-th of n. -/
def hdF (p : Pc) (i : Nat) : Fl := ⟨1, p.s, (p.hs.getD i (0, 0)).1, (p.hs.getD i (0, 0)).2, p.x.size, decide (i + 1 < p.hs.length), p.c, ByteArray.empty⟩
/-- How many Bodies; what is left behind j of them. -/
def nb (n : Nat) : Nat := (n - 1) / 6
def restX (x : ByteArray) (j : Nat) : ByteArray := x.extract (6 * j) x.size
def bdF (x : ByteArray) (j : Nat) : Fl := ⟨2, 0, 0, 0, 0, false, false, x.extract (6 * j) (6 * j + 6)⟩
def tlF (x : ByteArray) : Fl := ⟨3, 0, 0, 0, 0, false, false, restX x (nb x.size)⟩
/-- A parcel's flits, and its words. -/
def Pc.fls (p : Pc) : List Fl := (List.range p.hs.length).map (hdF p) ++ ((List.range (nb p.x.size)).map (bdF p.x) ++ [tlF p.x])
def Pc.ws (p : Pc) : List Nat := p.fls.map Fl.word
def Pc.wordsR (p : Pc) : List Nat × Int := if 64 < p.x.size then ([], 4) else if p.okB = true then (p.ws, 0) else ([], 1)

theorem headOk_iff (h : Int × Int) : headOk h = true ↔ 0 ≤ h.1 ∧ h.1 ≤ 4095 ∧ 0 ≤ h.2 ∧ h.2 ≤ 65535 := by unfold headOk; rw [decide_eq_true_eq]
theorem ok_iff (p : Pc) : p.okB = true ↔ (0 ≤ p.s ∧ p.s ≤ 4095) ∧ (1 ≤ p.hs.length ∧ p.hs.length ≤ 4096 ∧ (p.c = true ∨ p.hs.length = 1)) ∧ p.x.size ≤ 64 ∧ ∀ h ∈ p.hs, headOk h = true := by
  unfold Pc.okB
  simp only [Bool.and_eq_true, Bool.or_eq_true, decide_eq_true_eq, List.all_eq_true]

theorem restX_size (x : ByteArray) (j : Nat) : (restX x j).size = x.size - 6 * j := by
  unfold restX
  rw [ByteArray.size_extract]
  omega
theorem restX_zero (x : ByteArray) : restX x 0 = x := by
  apply ba_ext
  unfold restX
  rw [ext_data, Nat.mul_zero, List.drop_zero, ba_size, List.take_length]
theorem restX_head (x : ByteArray) (j : Nat) : (restX x j).extract 0 6 = x.extract (6 * j) (6 * j + 6) := by
  apply ba_ext
  unfold restX
  rw [ext_data, ext_data, ext_data, List.drop_zero, ba_size, List.take_length]
  rw [show 6 * j + 6 = 6 + 6 * j by omega, List.drop_take, show 6 + 6 * j - 6 * j = 6 by omega]
theorem restX_tail (x : ByteArray) (j : Nat) : (restX x j).extract 6 (restX x j).size = restX x (j + 1) := by
  apply ba_ext
  rw [ext_data, ba_size, List.take_length]
  unfold restX
  rw [ext_data, ext_data, ba_size, List.take_length, List.drop_drop, Nat.mul_add]
theorem nb_more {x : ByteArray} {j : Nat} : j < nb x.size ↔ 6 < (restX x j).size := by
  rw [restX_size]
  unfold nb
  omega
theorem nb_end {x : ByteArray} : (restX x (nb x.size)).size ≤ 6 := by
  rw [restX_size]
  unfold nb
  omega

theorem hd_right {p : Pc} (h : p.okB = true) {i : Nat} (hi : i < p.hs.length) : (hdF p i).rightB = true := by
  obtain ⟨⟨h1, h2⟩, _, h3, h4⟩ := (ok_iff p).1 h
  have hm : p.hs.getD i (0, 0) ∈ p.hs := by rw [List.getD_eq_getElem?_getD, List.getElem?_eq_getElem hi]; exact List.getElem_mem _
  obtain ⟨a1, a2, a3, a4⟩ := (headOk_iff _).1 (h4 _ hm)
  have e : (hdF p i).k = 1 := rfl
  rw [fl_right_one e, head_iff, Bool.and_eq_true]
  refine ⟨decide_eq_true ⟨h1, h2, a1, a2, a3, a4, by show (0 : Int) ≤ (p.x.size : Int); omega, by show (p.x.size : Int) ≤ 64; omega⟩, by show ByteArray.empty.toList.isEmpty = true; simp⟩
theorem only_of (k : Int) (x : ByteArray) : (Fl.mk k 0 0 0 0 false false x).onlyB = true := (Fl.eqB_iff _ _).2 rfl
theorem bd_right {x : ByteArray} {j : Nat} (h : j < nb x.size) : (bdF x j).rightB = true := by
  have e : (bdF x j).k = 2 := rfl
  rw [fl_right_two e, show (bdF x j).onlyB = true from only_of _ _, Bool.true_and, decide_eq_true_eq]
  have := nb_more.1 h
  rw [restX_size] at this
  show (x.extract (6 * j) (6 * j + 6)).size = 6
  rw [ByteArray.size_extract]
  omega
theorem tl_right (x : ByteArray) : (tlF x).rightB = true := by
  have e : (tlF x).k = 3 := rfl
  rw [fl_right_three e, show (tlF x).onlyB = true from only_of _ _, Bool.true_and, decide_eq_true_eq]
  exact nb_end
theorem fls_right {p : Pc} (h : p.okB = true) : ∀ f ∈ p.fls, f.rightB = true := by
  intro f hf
  unfold Pc.fls at hf
  simp only [List.mem_append, List.mem_map, List.mem_range, List.mem_singleton] at hf
  rcases hf with ⟨i, hi, rfl⟩ | ⟨j, hj, rfl⟩ | rfl
  · exact hd_right h hi
  · exact bd_right hj
  · exact tl_right _
theorem fls_len (p : Pc) : p.fls.length = p.hs.length + (nb p.x.size + 1) := by unfold Pc.fls; simp
theorem ws_len (p : Pc) : p.ws.length = p.hs.length + (nb p.x.size + 1) := by unfold Pc.ws; rw [List.length_map, fls_len]

/-- What is told of flits, one behind the other. -/
def Pc.add (p : Pc) (f : Fl) : Pc := if f.k = 1 then ⟨f.s, f.c, p.hs ++ [(f.d, f.q)], p.x ++ f.x⟩ else ⟨p.s, p.c, p.hs, p.x ++ f.x⟩
def coll (fs : List Fl) : Pc := fs.foldl Pc.add zp
theorem coll_snoc (fs : List Fl) (f : Fl) : coll (fs ++ [f]) = (coll fs).add f := by unfold coll; rw [List.foldl_append]; rfl

theorem take_heads {p : Pc} : ∀ n, n ≤ p.hs.length → ((List.range n).map (hdF p)).foldl Pc.add zp = if n = 0 then zp else ⟨p.s, p.c, p.hs.take n, ByteArray.empty⟩ := by
  intro n
  induction n with
  | zero => intro _; rfl
  | succ n ih =>
    intro hn
    rw [List.range_succ, List.map_append, List.foldl_append, ih (by omega)]
    show Pc.add _ (hdF p n) = _
    have e : p.hs.take (n + 1) = p.hs.take n ++ [p.hs.getD n (0, 0)] := by
      rw [List.take_add_one, List.getElem?_eq_getElem (by omega)]
      simp [List.getD_eq_getElem?_getD, List.getElem?_eq_getElem (show n < p.hs.length by omega)]
    unfold Pc.add
    rw [if_pos (show (hdF p n).k = 1 from rfl), if_neg (Nat.succ_ne_zero n), e]
    cases n with
    | zero =>
      show (⟨p.s, p.c, [] ++ [((p.hs.getD 0 (0, 0)).1, (p.hs.getD 0 (0, 0)).2)], ByteArray.empty ++ ByteArray.empty⟩ : Pc) = _
      rw [app_empty]
      rfl
    | succ n =>
      rw [if_neg (Nat.succ_ne_zero n)]
      show (⟨p.s, p.c, p.hs.take (n + 1) ++ [((p.hs.getD (n + 1) (0, 0)).1, (p.hs.getD (n + 1) (0, 0)).2)], ByteArray.empty ++ ByteArray.empty⟩ : Pc) = _
      rw [app_empty]
theorem take_bodies (s : Int) (c : Bool) (hs : List (Int × Int)) (x : ByteArray) : ∀ n, n ≤ nb x.size → ((List.range n).map (bdF x)).foldl Pc.add ⟨s, c, hs, ByteArray.empty⟩ = ⟨s, c, hs, x.extract 0 (6 * n)⟩ := by
  intro n
  induction n with
  | zero =>
    intro _
    rw [show x.extract 0 (6 * 0) = ByteArray.empty from ba_ext (by rw [ext_data]; rfl)]
    rfl
  | succ n ih =>
    intro hn
    rw [List.range_succ, List.map_append, List.foldl_append, ih (by omega)]
    show (⟨s, c, hs, x.extract 0 (6 * n) ++ x.extract (6 * n) (6 * n + 6)⟩ : Pc) = _
    congr 1
    apply ba_ext
    rw [app_data, ext_data, ext_data, ext_data, List.drop_zero, List.drop_zero, show 6 * (n + 1) = 6 * n + 6 by omega]
    have : x.data.toList.take (6 * n + 6) = (x.data.toList.take (6 * n + 6)).take (6 * n) ++ (x.data.toList.take (6 * n + 6)).drop (6 * n) := (List.take_append_drop _ _).symm
    rw [List.take_take, Nat.min_eq_left (by omega)] at this
    exact this.symm
/-- P10.2: what is cut is read as it was. -/
theorem coll_fls {p : Pc} (h : 1 ≤ p.hs.length) : coll p.fls = p := by
  unfold coll Pc.fls
  rw [List.foldl_append, take_heads _ (Nat.le_refl _), if_neg (by omega), List.take_length, List.foldl_append, take_bodies _ _ _ _ _ (Nat.le_refl _)]
  show (⟨p.s, p.c, p.hs, p.x.extract 0 (6 * nb p.x.size) ++ restX p.x (nb p.x.size)⟩ : Pc) = p
  obtain ⟨s, c, hs, x⟩ := p
  congr 1
  apply ba_ext
  unfold restX
  rw [app_data, ext_data, ext_data, List.drop_zero, ba_size, List.take_length, List.take_append_drop]

/-- The error of the first word that is none's; 0: all are flits'. -/
def errR : List Nat → Int
  | [] => 0
  | w :: l => if (readR w).2 ≠ 0 then (readR w).2 else errR l
/-- The parcel whose words these are. -/
def readPc (l : List Nat) : Pc × Int := if errR l ≠ 0 then (zp, errR l) else if (coll (l.map fun w => (readR w).1)).wordsR = (l, 0) then (coll (l.map fun w => (readR w).1), 0) else (zp, 2)
theorem errR_word {fs : List Fl} (h : ∀ f ∈ fs, f.rightB = true) : errR (fs.map Fl.word) = 0 ∧ (fs.map Fl.word).map (fun w => (readR w).1) = fs := by
  induction fs with
  | nil => exact ⟨rfl, rfl⟩
  | cons f fs ih =>
    obtain ⟨i1, i2⟩ := ih fun g hg => h g (List.mem_cons_of_mem _ hg)
    have e := readR_word (h f (List.mem_cons_self ..))
    refine ⟨?_, ?_⟩
    · show (if (readR f.word).2 ≠ 0 then (readR f.word).2 else errR (fs.map Fl.word)) = 0
      rw [e]
      simpa using i1
    · show (readR f.word).1 :: (fs.map Fl.word).map (fun w => (readR w).1) = f :: fs
      rw [e, i2]
theorem read_ws {p : Pc} (h : p.okB = true) : readPc p.ws = (p, 0) := by
  obtain ⟨e1, e2⟩ := errR_word (fls_right h)
  obtain ⟨_, h1, h2, _⟩ := (ok_iff p).1 h
  have e3 : coll p.fls = p := coll_fls h1.1
  unfold readPc
  rw [show errR p.ws = 0 from e1, show p.ws.map (fun w => (readR w).1) = p.fls from e2, e3]
  have : p.wordsR = (p.ws, 0) := by unfold Pc.wordsR; rw [if_neg (by omega), if_pos h]
  rw [if_neg (by simp), if_pos this]
/-- Where a parcel's words lie. -/
theorem map_getD {α : Type} (F : α → Nat) {l : List α} {f : α} {i : Nat} (h : l[i]? = some f) : (l.map F).getD i 0 = F f := by
  rw [List.getD_eq_getElem?_getD, List.getElem?_map, h]
  rfl
theorem fls_head {p : Pc} {i : Nat} (h : i < p.hs.length) : p.fls[i]? = some (hdF p i) := by
  unfold Pc.fls
  rw [List.getElem?_append_left (by rw [List.length_map, List.length_range]; exact h), List.getElem?_map, List.getElem?_range h]
  rfl
theorem fls_body {p : Pc} {j : Nat} (h : j < nb p.x.size) : p.fls[p.hs.length + j]? = some (bdF p.x j) := by
  unfold Pc.fls
  rw [List.getElem?_append_right (by rw [List.length_map, List.length_range]; omega), List.length_map, List.length_range, Nat.add_sub_cancel_left, List.getElem?_append_left (by rw [List.length_map, List.length_range]; exact h), List.getElem?_map, List.getElem?_range h]
  rfl
theorem fls_tail (p : Pc) : p.fls[p.hs.length + nb p.x.size]? = some (tlF p.x) := by
  unfold Pc.fls
  rw [List.getElem?_append_right (by rw [List.length_map, List.length_range]; omega), List.length_map, List.length_range, Nat.add_sub_cancel_left, List.getElem?_append_right (by rw [List.length_map, List.length_range]; omega), List.length_map, List.length_range, Nat.sub_self]
  rfl
theorem ws_head {p : Pc} {i : Nat} (h : i < p.hs.length) : p.ws.getD i 0 = (hdF p i).word := by
  unfold Pc.ws
  exact map_getD Fl.word (fls_head h)
theorem ws_body {p : Pc} {j : Nat} (h : j < nb p.x.size) : p.ws.getD (p.hs.length + j) 0 = (bdF p.x j).word := by
  unfold Pc.ws
  exact map_getD Fl.word (fls_body h)
theorem ws_tail (p : Pc) : p.ws.getD (p.hs.length + nb p.x.size) 0 = (tlF p.x).word := by
  unfold Pc.ws
  exact map_getD Fl.word (fls_tail p)
end Go.Proofs.Ytkigeakaedkjpaa
