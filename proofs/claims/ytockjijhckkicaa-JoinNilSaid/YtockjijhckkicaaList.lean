/-
  Plain lists: room for fields, packing, unpacking. Slices that read as a list.
-/
import Derived.Test.YtockjijhckkicaaRef
import Derived.WalkSmall
import Derived.OwnWalk
namespace Go.Proofs.Ytockjijhckkicaa
open Go.RowKit

/-- A slice that reads as these values. -/
def Rd (w : World) (a : Option Addr) (vs : List Value) : Prop :=
  ∀ (j : Nat) (v : Value), vs[j]? = some v → ∃ g off, a = some ⟨g, off, none⟩ ∧ g < w.heap.size ∧ w.cell? ⟨g, off + j, none⟩ = some v

def vi (l : List Int) : List Value := l.map fun n => .int .i64 n
def vu (l : List Nat) : List Value := l.map fun (n : Nat) => .int .u32 (n : Int)

theorem lt_of_heap {w : World} {b : Nat} {x : Obj} (h : w.heap[b]? = some x) : b < w.heap.size := by
  rcases Nat.lt_or_ge b w.heap.size with h' | h'
  · exact h'
  · rw [Array.getElem?_eq_none h'] at h; cases h
theorem cell_of {w : World} {b : Nat} {c : Array Value} {t : TypeId} {fr : Nat × Nat} (h : w.heap[b]? = some (.cells c t fr)) (k : Nat) : w.cell? ⟨b, k, none⟩ = c[k]? := by
  simp [World.cell?, h]

theorem Rd.keep {w w' : World} {a : Option Addr} {vs : List Value} (h : Rd w a vs) (hs : w.heap.size ≤ w'.heap.size) (hk : ∀ g, g < w.heap.size → w'.heap[g]? = w.heap[g]?) : Rd w' a vs := fun j v hj => by
  obtain ⟨g, off, h1, h2, h3⟩ := h j v hj
  exact ⟨g, off, h1, by omega, by rw [World.cell?_of_block (hk g h2)]; exact h3⟩
theorem Rd.below {w w' : World} {a : Option Addr} {vs : List Value} (h : Rd w a vs) (b : Below w.heap.size w w') : Rd w' a vs := h.keep b.size (fun g hg => b.block g hg)
theorem Rd.drewN {w : World} {a : Option Addr} {vs : List Value} (h : Rd w a vs) (n : Nat) : Rd (w.drewN n) a vs := h
theorem Rd.alloc {w : World} {a : Option Addr} {vs : List Value} (h : Rd w a vs) (o : Obj) : Rd (w.alloc o) a vs := h.keep (by simp) (fun g hg => Below.heap_alloc _ _ _ hg)
theorem Rd.take {w : World} {a : Option Addr} {vs : List Value} (h : Rd w a vs) (k : Nat) : Rd w a (vs.take k) := fun j v hj => by
  rw [List.getElem?_take] at hj
  split at hj
  · exact h j v hj
  · cases hj
theorem vi_take (l : List Int) (k : Nat) : (vi l).take k = vi (l.take k) := by simp [vi, List.map_take]
theorem vu_take (l : List Nat) (k : Nat) : (vu l).take k = vu (l.take k) := by simp [vu, List.map_take]
theorem vi_at {l : List Int} {k : Nat} (h : k < l.length) : (vi l)[k]? = some (.int .i64 (l.getD k 0)) := by simp [vi, h]
theorem vu_at {l : List Nat} {k : Nat} (h : k < l.length) : (vu l)[k]? = some (.int .u32 ((l.getD k 0 : Nat) : Int)) := by simp [vu, h]
theorem dropi {l : List Int} {k : Nat} (h : k < l.length) : l.drop k = l.getD k 0 :: l.drop (k + 1) := by
  rw [List.drop_eq_getElem_cons h]; simp [h]
theorem dropu {l : List Nat} {k : Nat} (h : k < l.length) : l.drop k = l.getD k 0 :: l.drop (k + 1) := by
  rw [List.drop_eq_getElem_cons h]; simp [h]

def roomF (a : Int) : List Int → Bool
  | [] => true
  | s :: r => fldB a s && roomF (a + s) r

theorem fld_of {a s : Int} (h : fldB a s = true) : 0 ≤ a ∧ 1 ≤ s ∧ s ≤ 32 ∧ a + s ≤ 64 := by
  unfold fldB at h
  have := of_decide_eq_true h
  omega
theorem fld_mk {a s : Int} (h1 : 0 ≤ a) (h2 : 1 ≤ s) (h3 : s ≤ 32) (h4 : a + s ≤ 64) : fldB a s = true := by
  unfold fldB; exact decide_eq_true (by omega)

theorem room_len (l : List Int) : ∀ a : Int, a ≤ 64 → roomF a l = true → (l.length : Int) ≤ 64 - a := by
  induction l with
  | nil => intro a h _; simp; omega
  | cons s r ih =>
    intro a h hr
    rw [roomF, Bool.and_eq_true] at hr
    have h1 := fld_of hr.1
    have := ih (a + s) h1.2.2.2 hr.2
    simp
    omega

def putR (W : Nat) (a s : Int) (v : Nat) : Nat × Int := if fldB a s = true then (if v < 2 ^ s.toNat then (putN W a.toNat s.toNat v, 0) else (0, 4)) else (0, 1)

theorem putR_lt (W : Nat) (a s : Int) (v : Nat) (hW : W < 18446744073709551616) : (putR W a s v).1 < 18446744073709551616 := by
  unfold putR
  split
  · rename_i h
    have := fld_of h
    split
    · rename_i hv; exact put_lt W _ _ v hW (by omega) hv
    · decide
  · decide

theorem putR_ok {W : Nat} {a s : Int} {v : Nat} (h : (putR W a s v).2 = 0) : fldB a s = true ∧ v < 2 ^ s.toNat ∧ (putR W a s v).1 = putN W a.toNat s.toNat v := by
  unfold putR at h ⊢
  split
  · rename_i h1
    rw [if_pos h1] at h
    by_cases hv : v < 2 ^ s.toNat
    · rw [if_pos hv]; exact ⟨h1, hv, rfl⟩
    · rw [if_neg hv] at h; cases h
  · rename_i h1; rw [if_neg h1] at h; cases h
theorem putR_two (W : Nat) (a s : Int) (v : Nat) : (putR W a s v).2 = 0 ∨ ((putR W a s v).1 = 0 ∧ ((putR W a s v).2 = 1 ∨ (putR W a s v).2 = 4)) := by
  unfold putR
  split
  · split
    · exact Or.inl rfl
    · exact Or.inr ⟨rfl, Or.inr rfl⟩
  · exact Or.inr ⟨rfl, Or.inl rfl⟩

def packF (W : Nat) (a : Int) : List Int → List Nat → Nat × Int
  | s :: r, v :: q => if (putR W a s v).2 = 0 then packF (putR W a s v).1 (a + s) r q else (0, (putR W a s v).2)
  | _, _ => (W, 0)

def packR (l : List Int) (q : List Nat) : Nat × Int := if l.length = q.length ∧ roomF 0 l = true then packF 0 0 l q else (0, 1)

def getV (W : Nat) (a s : Int) : Nat := if fldB a s = true then W / 2 ^ a.toNat % 2 ^ s.toNat else 0
def getE (a s : Int) : Int := if fldB a s = true then 0 else 1

theorem getV_lt (W : Nat) (a s : Int) : getV W a s < 4294967296 := by
  unfold getV
  split
  · rename_i h
    have := fld_of h
    have h1 : W / 2 ^ a.toNat % 2 ^ s.toNat < 2 ^ s.toNat := Nat.mod_lt _ (Nat.two_pow_pos _)
    have h2 : (2 : Nat) ^ s.toNat ≤ 2 ^ 32 := Nat.pow_le_pow_right (by decide) (by omega)
    omega
  · decide

def vals (W : Nat) (a : Int) : List Int → List Nat
  | [] => []
  | s :: r => getV W a s :: vals W (a + s) r

theorem vals_len (W : Nat) (l : List Int) : ∀ a, (vals W a l).length = l.length := by
  induction l with
  | nil => intro a; rfl
  | cons s r ih => intro a; simp [vals, ih]

def unpackR (W : Nat) (l : List Int) : List Nat × Int := if roomF 0 l = true then (vals W 0 l, 0) else ([], 1)

theorem get_any (W : Nat) (a s : Int) (hW : W < 18446744073709551616) (w : World) : Calls Try.prog 49 #[.int .u64 W, .int .i64 a, .int .i64 s] w fun e w' => e = .returned (.tuple #[.int .u32 (getV W a s : Nat), .int .i64 (getE a s)]) ∧ ∃ n, w' = w.drewN n := by
  by_cases h : fldB a s = true
  · rw [getV, getE, if_pos h, if_pos h]
    have h1 := fld_of h
    obtain ⟨A, rfl⟩ := Int.eq_ofNat_of_zero_le h1.1
    obtain ⟨S, rfl⟩ := Int.eq_ofNat_of_zero_le (a := s) (by omega)
    exact get_yes W A S hW (by omega) (by omega) (by omega) w
  · rw [getV, getE, if_neg h, if_neg h]
    exact get_no W a s (by simpa using h) w

theorem rget_any (W : Nat) (a s : Int) (hW : W < 18446744073709551616) (w : World) : Calls Try.prog 27 #[.int .u64 W, .int .i64 a, .int .i64 s] w fun e w' => e = .returned (.tuple #[.int .u32 (getV W a s : Nat), .int .i64 (getE a s)]) ∧ w = w' := by
  by_cases h : fldB a s = true
  · rw [getV, getE, if_pos h, if_pos h]
    have h1 := fld_of h
    obtain ⟨A, rfl⟩ := Int.eq_ofNat_of_zero_le h1.1
    obtain ⟨S, rfl⟩ := Int.eq_ofNat_of_zero_le (a := s) (by omega)
    exact rget_yes W A S hW (by omega) (by omega) (by omega) w
  · rw [getV, getE, if_neg h, if_neg h]
    exact rget_no W a s (by simpa using h) w

theorem put_any (W : Nat) (a s : Int) (v : Nat) (hW : W < 18446744073709551616) (hv : v < 4294967296) (w : World) : Calls Try.prog 60 #[.int .u64 W, .int .i64 a, .int .i64 s, .int .u32 v] w fun e w' => e = .returned (.tuple #[.int .u64 ((putR W a s v).1 : Nat), .int .i64 (putR W a s v).2]) ∧ ∃ n, w' = w.drewN n := by
  by_cases h : fldB a s = true
  · have h1 := fld_of h
    obtain ⟨A, rfl⟩ := Int.eq_ofNat_of_zero_le h1.1
    obtain ⟨S, rfl⟩ := Int.eq_ofNat_of_zero_le (a := s) (by omega)
    by_cases hb : v < 2 ^ S
    · have e : putR W A S v = (putN W A S v, 0) := by unfold putR; rw [if_pos h, if_pos (by simpa using hb)]; rfl
      rw [e]
      exact put_yes W A S v hW (by omega) (by omega) (by omega) hv hb w
    · have e : putR W A S v = (0, 4) := by unfold putR; rw [if_pos h, if_neg (by simpa using hb)]
      rw [e]
      exact put_big W A S v (by omega) (by omega) (by omega) hv (by omega) w
  · have e : putR W a s v = (0, 1) := by unfold putR; rw [if_neg h]
    rw [e]
    exact put_no W a s v (by simpa using h) w

theorem rput_any (W : Nat) (a s : Int) (v : Nat) (hW : W < 18446744073709551616) (hv : v < 4294967296) (w : World) : Calls Try.prog 46 #[.int .u64 W, .int .i64 a, .int .i64 s, .int .u32 v] w fun e w' => e = .returned (.tuple #[.int .u64 ((putR W a s v).1 : Nat), .int .i64 (putR W a s v).2]) ∧ w = w' := by
  by_cases h : fldB a s = true
  · have h1 := fld_of h
    obtain ⟨A, rfl⟩ := Int.eq_ofNat_of_zero_le h1.1
    obtain ⟨S, rfl⟩ := Int.eq_ofNat_of_zero_le (a := s) (by omega)
    by_cases hb : v < 2 ^ S
    · have e : putR W A S v = (putN W A S v, 0) := by unfold putR; rw [if_pos h, if_pos (by simpa using hb)]; rfl
      rw [e]
      exact rput_yes W A S v hW (by omega) (by omega) (by omega) hv hb w
    · have e : putR W A S v = (0, 4) := by unfold putR; rw [if_pos h, if_neg (by simpa using hb)]
      rw [e]
      exact rput_big W A S v (by omega) (by omega) (by omega) hv (by omega) w
  · have e : putR W a s v = (0, 1) := by unfold putR; rw [if_neg h]
    rw [e]
    exact rput_no W a s v (by simpa using h) w

/-- The cell of the k-th number. -/
theorem Rd.cell {w : World} {a : Option Addr} {vs : List Value} (h : Rd w a vs) {k : Nat} {v : Value} (hk : vs[k]? = some v) : ∃ g off, a = some ⟨g, off, none⟩ ∧ w.cell? ⟨g, off + k, none⟩ = some v := by
  obtain ⟨g, off, h1, _, h3⟩ := h k v hk
  exact ⟨g, off, h1, h3⟩

theorem room_any (w : World) (a : Option Addr) (n cap : Nat) (l : List Int) (hn : n = l.length) (hl : n ≤ 1000000) (hr : Rd w a (vi l)) :
    Calls Try.prog 58 #[.slice a n cap] w fun e w' => e = .returned (.bool (roomF 0 l)) ∧ w = w' := by
  have HN : Hid (n = l.length) := hn
  have HR : Hid (Rd w a (vi l)) := hr
  obtain ⟨R, hR⟩ : ∃ R, R = roomF 0 l := ⟨_, rfl⟩
  rw [← hR]
  have HRR : Hid (R = roomF 0 l) := hR
  clear hn hr hR
  go_enter Try.func58, Try.ntmps58
  go_wp2
  go_loop [3, 8] (fun x i => ∃ (k : Nat) (q : Int), k ≤ n ∧ 0 ≤ q ∧ q ≤ 64 ∧ i = .int .i64 k ∧ x = .int .i64 q ∧ Hid (R = roomF q (l.drop k))) (fun _ i => n - (intOf i).toNat)
  case atStart => exact ⟨0, 0, Nat.zero_le _, by omega, by omega, rfl, rfl, HRR⟩
  case round =>
    obtain ⟨k, q, hk, hq0, hq1, rfl, rfl, hq⟩ := hrel
    by_cases hlt : k < n
    · have hlk : k < l.length := by have := HN.out; omega
      obtain ⟨g, off, rfl, hc⟩ := HR.out.cell (vi_at hlk)
      obtain ⟨s, hs⟩ : ∃ s, s = l.getD k 0 := ⟨_, rfl⟩
      rw [← hs] at hc
      have hd : l.drop k = s :: l.drop (k + 1) := by rw [dropi hlk, ← hs]
      have h5 := hq.out
      rw [hd, roomF] at h5
      have K := isField_any q s w
      clear hs hd hq
      by_cases hf : fldB q s = true
      · rw [hf] at h5 K
        rw [Bool.true_and] at h5
        have hb := fld_of hf
        have h6 : Hid (R = roomF (q + s) (l.drop (k + 1))) := h5
        have hb1 : 0 ≤ q + s := by omega
        obtain ⟨_, _, _, hb2⟩ := hb
        clear h5 hf
        go_wp2_with (go_at_call 57; refine K.mono ?_; rintro e w' ⟨rfl, rfl⟩)
        go_round
        case rel => exact ⟨k + 1, q + s, by omega, hb1, hb2, by go_num, rfl, h6⟩
        case measure => simp [intOf]; omega
      · have hf' : fldB q s = false := by simpa using hf
        rw [hf'] at h5 K
        rw [Bool.false_and] at h5
        have h6 : Hid (R = false) := h5
        clear h5 hf hf'
        go_wp2_with (go_at_call 57; refine K.mono ?_; rintro e w' ⟨rfl, rfl⟩)
        go_ret
        exact ⟨ret_bool h6.out.symm, rfl⟩
    · obtain rfl : k = n := by omega
      have h5 : Hid (R = true) := by have := hq.out; rw [HN.out, List.drop_length] at this; exact this
      clear hq
      go_wp2
      go_ret
      exact ⟨ret_bool h5.out.symm, rfl⟩
end Go.Proofs.Ytockjijhckkicaa
