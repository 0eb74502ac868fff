/-
 The document's whose turn it is, by value: New, See, Next.
-/
import Derived.Test.YtmmegmonmilkcaaGreatDoorRtO
namespace Go.Proofs.YtmmegmonmilkcaaGreatDoor.R12
open Go.RowKit
abbrev fc (N l : Nat) : Array Value := #[.int .i64 (N : Int), .int .i64 ((l : Int) - 1)]
def vb (L : List Bool) : List Value := L.map .bool
def wl (L : List Bool) (k : Nat) : Bool := L.getD k false
theorem vb_at {L : List Bool} {k : Nat} (h : k < L.length) : (vb L)[k]? = some (.bool (wl L k)) := by
 unfold vb wl
 rw [List.getElem?_map, List.getD_eq_getElem?_getD, List.getElem?_eq_getElem h]
 rfl
theorem wl_out {L : List Bool} {k : Nat} (h : ¬ k < L.length) : wl L k = false := by
 unfold wl
 rw [List.getD_eq_getElem?_getD, List.getElem?_eq_none (Nat.le_of_not_lt h)]
 rfl
theorem Rd.truth {w : World} {a : Option Addr} {L : List Bool} (h : Rd w a (vb L)) {k : Nat} (hk : k < L.length) : ∃ g o, a = some ⟨g, o, none⟩ ∧ g < w.heap.size ∧ w.cell? ⟨g, o + k, none⟩ = some (.bool (wl L k)) := h k _ (vb_at hk)
theorem clamp_ways (n : Int) : (n < 1 ∧ ((clampN n : Nat) : Int) = 1) ∨ (1 ≤ n ∧ 4096 < n ∧ ((clampN n : Nat) : Int) = 4096) ∨ (1 ≤ n ∧ n ≤ 4096 ∧ ((clampN n : Nat) : Int) = n) := by
 have := (clamp_pos n).2.2
 omega
theorem two_at {v : World} {b : Nat} {c0 c1 x0 x1 : Value} {t : TypeId} (h : Bk v b #[c0, c1] t) : Bk ((v.setCell ⟨b, 0, none⟩ x0).setCell ⟨b, 1, none⟩ x1) b #[x0, x1] t := by
 have := (h.set 0 x0).set 1 x1
 simpa using this
theorem below_two {w v : World} {B b : Nat} (h : Below B w v) (hb : B ≤ b) (x0 x1 : Value) : Below B w ((v.setCell ⟨b, 0, none⟩ x0).setCell ⟨b, 1, none⟩ x1) := (h.setCell hb _).setCell hb _
theorem rnew_any (n : Int) (w : World) : Calls Tryz.prog 42 #[.int .i64 n] w fun e w' => e = .returned (.agg (fc (clampN n) 0)) ∧ Below w.heap.size w w' := by
 simp only [fc]
 have BK : Hid (Bk (w.alloc (.cells #[.int .i64 0, .int .i64 0] 103)) w.heap.size #[.int .i64 0, .int .i64 0] 103) := Bk.new _ _ _
 have B0 : Hid (Below w.heap.size w (w.alloc (.cells #[.int .i64 0, .int .i64 0] 103))) := (Below.refl _ _).alloc (Nat.le_refl _) _
 rcases clamp_ways n with ⟨a, e⟩ | ⟨a, b, e⟩ | ⟨a, b, e⟩ <;> rw [e] <;> clear e
 all_goals
  go_enter Tryz.func42, Tryz.ntmps42
  go_upto_region 1 with fail
  generalize w.alloc (.cells #[.int .i64 0, .int .i64 0] 103) = v at *
  have c0 := BK.out.cell 0
  have c1 := BK.out.cell 1
  have z0 := BK.out.free 0
  have z1 := BK.out.free 1
  simp only [sqg, sqh, sqt] at c0 c1
  have YY := fun x0 x1 => two_at (x0 := x0) (x1 := x1) BK.out
  have Y0 := fun x0 x1 => (YY x0 x1).cell 0
  have Y1 := fun x0 x1 => (YY x0 x1).cell 1
  simp only [sqg, sqh, sqt] at Y0 Y1
  go_wp2
  refine bodyPost_ret (v := .agg #[.int .i64 _, .int .i64 (-1)]) (by simp [results, Tryz.results42, go_sem, Y0, Y1]; try rfl) rfl ⟨rfl, below_two B0.out (Nat.le_refl _) _ _⟩
set_option maxRecDepth 100000 in
set_option maxHeartbeats 4000000 in
theorem rsee_any (N l : Nat) (h0 : 0 < N) (hN : N ≤ 4096) (hl : l ≤ N) (a : Option Addr) (L : List Bool) (c : Nat) (w : World) (hr : Rd w a (vb L)) :
  Calls Tryz.prog 96 #[.agg (fc N l), .slice a L.length c] w fun e w' => e = .returned (.tuple #[.int .i64 ((ask N l (wl L)).1 : Int), .bool (ask N l (wl L)).2]) ∧ Below w.heap.size w w' := by
 have HR : Hid (Rd (w.alloc (.cells (fc N l) 103)) a (vb L)) := hr.alloc _
 have BK : Hid (Bk (w.alloc (.cells (fc N l) 103)) w.heap.size (fc N l) 103) := Bk.new _ _ _
 have B0 : Hid (Below w.heap.size w (w.alloc (.cells (fc N l) 103))) := (Below.refl _ _).alloc (Nat.le_refl _) _
 clear hr
 simp only [fc] at *
 go_enter Tryz.func96, Tryz.ntmps96
 go_upto_region 1 with fail
 generalize w.alloc (.cells #[.int .i64 (N : Int), .int .i64 ((l : Int) - 1)] 103) = v at *
 have c0 := BK.out.cell 0
 have c1 := BK.out.cell 1
 simp only [sqg, sqh, sqt] at c0 c1
 go_wp2_with fail
 go_loopw [6] (fun x wr => ∃ i : Nat, i ≤ N ∧ x = .int .i64 ((i : Int) + 1) ∧ v = wr ∧ ∀ j, j < i → wl L ((l + j) % N) = false) (fun x _ => N + 1 - (RowKit.intOf x).toNat)
 case atStart => exact ⟨0, Nat.zero_le _, rfl, rfl, fun j hj => absurd hj (Nat.not_lt_zero _)⟩
 case round =>
  obtain ⟨i, hi, rfl, rfl, hn⟩ := hrel
  have HN : Hid (∀ j, j < i → wl L ((l + j) % N) = false) := hn
  clear hn
  by_cases hlt : i < N
  case neg =>
   have e4 : ¬ (i : Int) + 1 ≤ (N : Int) := by omega
   obtain rfl : i = N := by omega
   have ha : Hid (ask i l (wl L) = (0, false)) := ask_none HN.out
   go_wp2
   go_ret2
   rw [ha.out]
   exact ⟨rfl, B0.out⟩
  have e4 : (i : Int) + 1 ≤ (N : Int) := by omega
  have hm : (l + i) % N < N := Nat.mod_lt _ h0
  obtain ⟨k, hk⟩ : ∃ k, (l + i) % N = k := ⟨_, rfl⟩
  have em : ((l : Int) - 1 + ((i : Int) + 1)) % (N : Int) = (k : Int) := by
   rw [← hk, Int.natCast_emod, Int.natCast_add, show (l : Int) - 1 + ((i : Int) + 1) = (l : Int) + (i : Int) by omega]
  rw [hk] at hm
  have HK : Hid ((l + i) % N = k) := hk
  clear hk
  have fin : Hid (wl L k = true → ask N l (wl L) = (k, true)) := show _ from fun h => by
   have := ask_hit (N := N) (l := l) (W := wl L) hlt (by rw [HK.out]; exact h) HN.out
   rwa [HK.out] at this
  have HN2 : Hid (wl L k = false → ∀ j, j < i + 1 → wl L ((l + j) % N) = false) := show _ from fun h j hj => by
   rcases (by omega : j < i ∨ j = i) with hh | rfl
   ·exact HN.out j hh
   ·rw [HK.out]; exact h
  by_cases hk : k < L.length
  ·obtain ⟨g, o, rfl, hg, c2⟩ := Rd.truth HR.out hk
   have e1 : (k : Int) < (L.length : Int) := by omega
   have e2 : (0 : Int) ≤ (k : Int) := by omega
   cases hw : wl L k <;> rw [hw] at c2
   ·have HN3 : Hid (∀ j, j < i + 1 → wl L ((l + j) % N) = false) := HN2.out hw
    clear hw HN2
    go_wp2
    go_roundw
    case rel => exact ⟨i + 1, by omega, by go_num, by first | rfl | trivial, HN3.out⟩
    case measure => simp [RowKit.intOf]; omega
   ·have ha : Hid (ask N l (wl L) = (k, true)) := fin.out hw
    clear hw fin
    go_wp2
    go_ret2
    rw [ha.out, em]
    exact ⟨rfl, B0.out⟩
  ·have e1 : ¬ (k : Int) < (L.length : Int) := by omega
   have HN3 : Hid (∀ j, j < i + 1 → wl L ((l + j) % N) = false) := HN2.out (wl_out hk)
   clear HN2
   go_wp2
   go_roundw
   case rel => exact ⟨i + 1, by omega, by go_num, by first | rfl | trivial, HN3.out⟩
   case measure => simp [RowKit.intOf]; omega
set_option maxRecDepth 100000 in
theorem rnext_any (N l : Nat) (h0 : 0 < N) (hN : N ≤ 4096) (hl : l ≤ N) (a : Option Addr) (L : List Bool) (c : Nat) (w : World) (hr : Rd w a (vb L)) :
  Calls Tryz.prog 57 #[.agg (fc N l), .slice a L.length c] w fun e w' => e = .returned (.tuple #[.agg (fc N (nxtl N l (wl L))), .int .i64 ((ask N l (wl L)).1 : Int), .bool (ask N l (wl L)).2]) ∧ Below w.heap.size w w' := by
 have F0 : Hid (Bk (w.alloc (.cells (fc N l) 103)) w.heap.size (fc N l) 103) := Bk.new _ _ _
 have F1 : Hid (Bk ((w.alloc (.cells (fc N l) 103)).alloc (.cells #[.int .i64 0, .int .i64 0] 103)) (w.heap.size + 1) #[.int .i64 0, .int .i64 0] 103) := show Bk _ _ _ _ from by
  have := Bk.new (w.alloc (.cells (fc N l) 103)) #[.int .i64 0, .int .i64 0] 103
  rwa [show (w.alloc (.cells (fc N l) 103)).heap.size = w.heap.size + 1 by simp] at this
 have F2 : Hid (Bk ((w.alloc (.cells (fc N l) 103)).alloc (.cells #[.int .i64 0, .int .i64 0] 103)) w.heap.size (fc N l) 103) := F0.out.alloc _
 have B0 : Hid (Below w.heap.size w ((w.alloc (.cells (fc N l) 103)).alloc (.cells #[.int .i64 0, .int .i64 0] 103))) := ((Below.refl _ _).alloc (Nat.le_refl _) _).alloc (by simp) _
 have SC := rsee_any N l h0 hN hl a L c _ ((hr.alloc (.cells (fc N l) 103)).alloc (.cells #[.int .i64 0, .int .i64 0] 103))
 have hne : w.heap.size ≠ w.heap.size + 1 := by omega
 have hx : nxtl N l (wl L) = if (ask N l (wl L)).2 = true then (ask N l (wl L)).1 + 1 else l := rfl
 generalize nxtl N l (wl L) = l2 at *
 generalize ask N l (wl L) = r at *
 obtain ⟨k, is⟩ := r
 generalize L.length = n at *
 simp only [fc] at *
 clear F0 hr
 go_enter Tryz.func57, Tryz.ntmps57
 go_upto_region 1 with fail
 generalize (w.alloc (.cells #[.int .i64 (N : Int), .int .i64 ((l : Int) - 1)] 103)).alloc (.cells #[.int .i64 0, .int .i64 0] 103) = v at *
 generalize hbp : w.heap.size = bp at *
 generalize hbr : bp + 1 = br at *
 have hbr2 : bp ≤ br := by omega
 have hbv : bp ≤ v.heap.size := by rw [← hbp]; exact B0.out.size
 have HBP : Hid (w.heap.size = bp) := hbp
 clear hbp hbr
 have c0 := F2.out.cell 0
 have c1 := F2.out.cell 1
 simp only [sqg, sqh, sqt] at c0 c1
 go_wp2_with fail
 go_at_call 96
 with_reducible refine SC.mono ?_
 rintro e w1 ⟨rfl, h1⟩
 have P1 : Hid (Bk w1 bp #[.int .i64 (N : Int), .int .i64 ((l : Int) - 1)] 103) := F2.out.next h1
 have R1 : Hid (Bk w1 br #[.int .i64 0, .int .i64 0] 103) := F1.out.next h1
 have HB1 : Hid (Below bp w w1) := B0.out.trans (h1.mono hbv)
 clear SC h1 F1 F2 B0 c0 c1
 cases is
 ·simp only [Bool.false_eq_true, if_false] at hx
  subst hx
  have c0 := P1.out.cell 0
  have c1 := P1.out.cell 1
  have d0 := R1.out.cell 0
  have d1 := R1.out.cell 1
  have z0 := R1.out.free 0
  have z1 := R1.out.free 1
  simp only [sqg, sqh, sqt] at c0 c1 d0 d1
  have YY := two_at (x0 := .int .i64 (N : Int)) (x1 := .int .i64 ((l2 : Int) - 1)) R1.out
  have Y0 := YY.cell 0
  have Y1 := YY.cell 1
  simp only [sqg, sqh, sqt] at Y0 Y1
  go_wp2
  refine bodyPost_ret (v := .tuple #[.agg #[.int .i64 (N : Int), .int .i64 ((l2 : Int) - 1)], .int .i64 (k : Int), .bool false]) (by simp [results, Tryz.results57, go_sem, Y0, Y1]; try rfl) rfl ⟨rfl, by rw [HBP.out]; exact below_two HB1.out hbr2 _ _⟩
 ·simp only [if_true] at hx
  subst hx
  have c0 := P1.out.cell 0
  have c1 := P1.out.cell 1
  have z1 := P1.out.free 1
  simp only [sqg, sqh, sqt] at c0 c1
  have e : ((k + 1 : Nat) : Int) - 1 = (k : Int) := by omega
  have P2 : Hid (Bk (w1.setCell ⟨bp, 1, none⟩ (.int .i64 (k : Int))) bp #[.int .i64 (N : Int), .int .i64 (k : Int)] 103) := show Bk _ _ _ _ from by simpa using P1.out.set 1 (.int .i64 (k : Int))
  have R2 : Hid (Bk (w1.setCell ⟨bp, 1, none⟩ (.int .i64 (k : Int))) br #[.int .i64 0, .int .i64 0] 103) := R1.out.far (fun h => hne h.symm)
  have HB2 : Hid (Below bp w (w1.setCell ⟨bp, 1, none⟩ (.int .i64 (k : Int)))) := HB1.out.setCell (Nat.le_refl _) _
  go_upto_region 4 with fail
  generalize w1.setCell ⟨bp, 1, none⟩ (.int .i64 (k : Int)) = w2 at *
  clear c0 c1 z1 P1 R1 HB1
  have c0 := P2.out.cell 0
  have c1 := P2.out.cell 1
  have d0 := R2.out.cell 0
  have d1 := R2.out.cell 1
  have z0 := R2.out.free 0
  have z1 := R2.out.free 1
  simp only [sqg, sqh, sqt] at c0 c1 d0 d1
  have YY := two_at (x0 := .int .i64 (N : Int)) (x1 := .int .i64 (k : Int)) R2.out
  have Y0 := YY.cell 0
  have Y1 := YY.cell 1
  simp only [sqg, sqh, sqt] at Y0 Y1
  go_wp2
  refine bodyPost_ret (v := .tuple #[.agg #[.int .i64 (N : Int), .int .i64 (k : Int)], .int .i64 (k : Int), .bool true]) (by simp [results, Tryz.results57, go_sem, Y0, Y1]; try rfl) rfl ⟨by rw [e], by rw [HBP.out]; exact below_two HB2.out hbr2 _ _⟩
end Go.Proofs.YtmmegmonmilkcaaGreatDoor.R12
