/-
  The walks of the document's Has, Flying and Coming.
-/
import Derived.Test.YtihfekcdghmkhaaLWith
namespace Go.Proofs.Ytihfekcdghmkhaa
open Go.RowKit
open RC (Cl cc cv zc cc_len cc_at)

theorem slices4 (a1 a2 a3 a4 : Option Addr) (n1 n2 n3 n4 c1 c2 c3 c4 : Nat) : ∀ v ∈ [Value.slice a1 n1 c1, Value.slice a2 n2 c2, Value.slice a3 n3 c3, Value.slice a4 n4 c4], ∃ a n c, v = .slice a n c := by
  intro v hv
  simp only [List.mem_cons, List.not_mem_nil, or_false] at hv
  rcases hv with rfl | rfl | rfl | rfl <;> exact ⟨_, _, _, rfl⟩
def hasN (l : List Int) (k : Int) : Int := if 0 ≤ k ∧ k < (l.length : Int) then l.getD k.toNat 0 else 0
theorem has_any (S : LS) (a1 a2 a3 a4 : Option Addr) (c1 c2 c3 c4 : Nat) (l : List Int) (a : Option Addr) (c : Nat) (k : Int) (w : World) (hr : Rd w a (vi l)) (hl : l.length = S.n) :
    Calls Try.prog 17 #[lsv S a1 a2 a3 a4 c1 c2 c3 c4, .slice a l.length c, .int .i64 k] w fun e w' => e = .returned (.int .i64 (hasN l k)) ∧ Below w.heap.size w w' := by
  unfold lsv
  have IC := fun v => is_any (S.n : Int) (S.d : Int) (S.r : Int) _ _ _ _ k v (slices4 a1 a2 a3 a4 S.cr.length S.ws.length S.far.length S.bk.length c1 c2 c3 c4)
  have B0 : Hid (Below w.heap.size w (w.alloc (.cells #[.int .i64 (S.n : Int), .int .i64 (S.d : Int), .int .i64 (S.r : Int), .slice a1 S.cr.length c1, .slice a2 S.ws.length c2, .slice a3 S.far.length c3, .slice a4 S.bk.length c4] 30))) := (Below.refl _ _).alloc (Nat.le_refl _) _
  have N0 : Hid (Bk (w.alloc (.cells #[.int .i64 (S.n : Int), .int .i64 (S.d : Int), .int .i64 (S.r : Int), .slice a1 S.cr.length c1, .slice a2 S.ws.length c2, .slice a3 S.far.length c3, .slice a4 S.bk.length c4] 30)) w.heap.size #[.int .i64 (S.n : Int), .int .i64 (S.d : Int), .int .i64 (S.r : Int), .slice a1 S.cr.length c1, .slice a2 S.ws.length c2, .slice a3 S.far.length c3, .slice a4 S.bk.length c4] 30) := Bk.new _ _ _
  by_cases hk : 0 ≤ k ∧ k < (S.n : Int)
  · obtain ⟨q, rfl⟩ := Int.eq_ofNat_of_zero_le hk.1
    have hq : q < l.length := by omega
    obtain ⟨g, o, rfl, hg, hc⟩ := hr q _ (vi_at hq)
    have hv : hasN l (q : Int) = l.getD q 0 := by
      unfold hasN
      rw [if_pos ⟨by omega, by omega⟩, Int.toNat_natCast]
    rw [hv]
    have e1 : (q : Int) < (l.length : Int) := by omega
    have e0 : (0 : Int) ≤ (q : Int) := by omega
    simp only [decide_eq_true hk] at IC
    clear hv hr hl hk hq
    generalize l.getD q 0 = x at *
    generalize l.length = n at *
    go_enter Try.func17, Try.ntmps17
    go_upto_region 1 with fail
    generalize w.alloc (.cells #[.int .i64 (S.n : Int), .int .i64 (S.d : Int), .int .i64 (S.r : Int), .slice a1 S.cr.length c1, .slice a2 S.ws.length c2, .slice a3 S.far.length c3, .slice a4 S.bk.length c4] 30) = v at *
    have d0 := N0.out.cell 0
    have d1 := N0.out.cell 1
    have d2 := N0.out.cell 2
    have d3 := N0.out.cell 3
    have d4 := N0.out.cell 4
    have d5 := N0.out.cell 5
    have d6 := N0.out.cell 6
    simp only [List.getElem?_toArray, List.getElem?_cons_zero, List.getElem?_cons_succ] at d0 d1 d2 d3 d4 d5 d6
    go_wp2_with fail
    go_at_call 39
    with_reducible refine (IC v).mono ?_
    rintro e w1 ⟨rfl, h1⟩
    have B1 : Hid (Below w.heap.size w w1) := B0.out.trans (h1.mono B0.out.size)
    have hc1 := (B1.out.cell (p := ⟨g, o + q, none⟩) hg).trans hc
    clear h1 IC hc
    go_wp2
    go_ret
    exact ⟨rfl, B1.out⟩
  · have hv : hasN l k = 0 := by
      unfold hasN
      rw [if_neg (by rw [hl]; exact hk)]
    rw [hv]
    simp only [decide_eq_false hk] at IC
    clear hv hr hl hk
    generalize l.length = n at *
    go_enter Try.func17, Try.ntmps17
    go_upto_region 1 with fail
    generalize w.alloc (.cells #[.int .i64 (S.n : Int), .int .i64 (S.d : Int), .int .i64 (S.r : Int), .slice a1 S.cr.length c1, .slice a2 S.ws.length c2, .slice a3 S.far.length c3, .slice a4 S.bk.length c4] 30) = v at *
    have d0 := N0.out.cell 0
    have d1 := N0.out.cell 1
    have d2 := N0.out.cell 2
    have d3 := N0.out.cell 3
    have d4 := N0.out.cell 4
    have d5 := N0.out.cell 5
    have d6 := N0.out.cell 6
    simp only [List.getElem?_toArray, List.getElem?_cons_zero, List.getElem?_cons_succ] at d0 d1 d2 d3 d4 d5 d6
    go_wp2_with fail
    go_at_call 39
    with_reducible refine (IC v).mono ?_
    rintro e w1 ⟨rfl, h1⟩
    have B1 : Hid (Below w.heap.size w w1) := B0.out.trans (h1.mono B0.out.size)
    clear h1 IC
    go_wp2
    go_ret
    exact ⟨rfl, B1.out⟩

def fly (l : List Cl) (k : Int) : Nat := (l.filter fun c => decide (c.lane = k)).length
theorem fly_snoc {l : List Cl} {i : Nat} (h : i < l.length) (k : Int) : fly (l.take (i + 1)) k = fly (l.take i) k + if l[i].lane = k then 1 else 0 := by
  unfold fly
  rw [List.take_add_one, List.getElem?_eq_getElem h, Option.toList_some, List.filter_append, List.length_append]
  congr 1
  by_cases hc : l[i].lane = k <;> simp [hc]
theorem fly_le (l : List Cl) (k : Int) : fly l k ≤ l.length := List.length_filter_le _ _
set_option maxHeartbeats 2000000 in
theorem fly_any (S : LS) (a1 a2 a3 a4 : Option Addr) (c1 c2 c3 c4 : Nat) (k : Int) (w : World) (hr : Rd w a2 (S.ws.flatMap cc)) (hl : S.ws.length ≤ 100000) :
    Calls Try.prog 20 #[lsv S a1 a2 a3 a4 c1 c2 c3 c4, .int .i64 k] w fun e w' => e = .returned (.int .i64 (fly S.ws k : Int)) ∧ Below w.heap.size w w' := by
  unfold lsv
  have B0 : Hid (Below w.heap.size w (w.alloc (.cells #[.int .i64 (S.n : Int), .int .i64 (S.d : Int), .int .i64 (S.r : Int), .slice a1 S.cr.length c1, .slice a2 S.ws.length c2, .slice a3 S.far.length c3, .slice a4 S.bk.length c4] 30))) := (Below.refl _ _).alloc (Nat.le_refl _) _
  have N0 : Hid (Bk (w.alloc (.cells #[.int .i64 (S.n : Int), .int .i64 (S.d : Int), .int .i64 (S.r : Int), .slice a1 S.cr.length c1, .slice a2 S.ws.length c2, .slice a3 S.far.length c3, .slice a4 S.bk.length c4] 30)) w.heap.size #[.int .i64 (S.n : Int), .int .i64 (S.d : Int), .int .i64 (S.r : Int), .slice a1 S.cr.length c1, .slice a2 S.ws.length c2, .slice a3 S.far.length c3, .slice a4 S.bk.length c4] 30) := Bk.new _ _ _
  go_enter Try.func20, Try.ntmps20
  go_upto_region 2 with fail
  generalize w.alloc (.cells #[.int .i64 (S.n : Int), .int .i64 (S.d : Int), .int .i64 (S.r : Int), .slice a1 S.cr.length c1, .slice a2 S.ws.length c2, .slice a3 S.far.length c3, .slice a4 S.bk.length c4] 30) = v at *
  have dd := N0.out.cell 4
  simp only [List.getElem?_toArray, List.getElem?_cons_zero, List.getElem?_cons_succ] at dd
  have HB : Hid (Below w.heap.size w v) := B0.out
  clear N0 B0
  go_wp2_with fail
  go_loopw [5, 6] (fun x y wr => ∃ i : Nat, i ≤ S.ws.length ∧ x = .int .i64 (fly (S.ws.take i) k : Int) ∧ y = .int .i64 i ∧ v = wr) (fun _ y _ => S.ws.length - (RowKit.intOf y).toNat)
  case atStart => exact ⟨0, Nat.zero_le _, by rfl, rfl, rfl⟩
  case round =>
    obtain ⟨i, hi, rfl, rfl, rfl⟩ := hrel
    have e0 : (0 : Int) ≤ (i : Int) := by omega
    by_cases hlt : i < S.ws.length
    · have e1 : (i : Int) < (S.ws.length : Int) := by omega
      have hle := fly_le (S.ws.take i) k
      rw [List.length_take] at hle
      obtain ⟨g, o, rfl, hg, hc⟩ := hr (i * 2) _ (cc_at S.ws i _ (List.getElem?_eq_getElem hlt)).1
      have hcv := (HB.out.cell (p := ⟨g, o + i * 2, none⟩) hg).trans hc
      have ht := fly_snoc hlt k
      generalize S.ws[i].lane = y at *
      have hx : fly (S.ws.take i) k ≤ 100000 := by omega
      obtain ⟨x, hxx⟩ : ∃ x, fly (S.ws.take i) k = x := ⟨_, rfl⟩
      rw [hxx] at ht hx ⊢
      have HT : Hid (fly (S.ws.take (i + 1)) k = x + if y = k then 1 else 0) := ht
      clear ht hxx hle hc
      by_cases hy : y = k
      · rw [if_pos hy] at HT
        go_wp2
        go_roundw
        case rel => exact ⟨i + 1, by omega, by rw [HT.out]; go_num, by go_num, by first | rfl | trivial⟩
        case measure => simp [RowKit.intOf]; omega
      · rw [if_neg hy] at HT
        go_wp2
        go_roundw
        case rel => exact ⟨i + 1, by omega, by rw [HT.out]; go_num, by go_num, by first | rfl | trivial⟩
        case measure => simp [RowKit.intOf]; omega
    · have e1 : ¬ (i : Int) < (S.ws.length : Int) := by omega
      obtain rfl : i = S.ws.length := by omega
      rw [List.take_length]
      go_wp2
      go_ret
      exact ⟨rfl, HB.out⟩

def com (l : List Int) (k : Int) : Nat := (l.filter fun x => decide (x = k)).length
theorem com_snoc {l : List Int} {i : Nat} (h : i < l.length) (k : Int) : com (l.take (i + 1)) k = com (l.take i) k + if l[i] = k then 1 else 0 := by
  unfold com
  rw [List.take_add_one, List.getElem?_eq_getElem h, Option.toList_some, List.filter_append, List.length_append]
  congr 1
  by_cases hc : l[i] = k <;> simp [hc]
theorem com_le (l : List Int) (k : Int) : com l k ≤ l.length := List.length_filter_le _ _
set_option maxHeartbeats 2000000 in
theorem com_any (S : LS) (a1 a2 a3 a4 : Option Addr) (c1 c2 c3 c4 : Nat) (k : Int) (w : World) (hr : Rd w a4 (vi S.bk)) (hl : S.bk.length ≤ 100000) :
    Calls Try.prog 22 #[lsv S a1 a2 a3 a4 c1 c2 c3 c4, .int .i64 k] w fun e w' => e = .returned (.int .i64 (com S.bk k : Int)) ∧ Below w.heap.size w w' := by
  unfold lsv
  have B0 : Hid (Below w.heap.size w (w.alloc (.cells #[.int .i64 (S.n : Int), .int .i64 (S.d : Int), .int .i64 (S.r : Int), .slice a1 S.cr.length c1, .slice a2 S.ws.length c2, .slice a3 S.far.length c3, .slice a4 S.bk.length c4] 30))) := (Below.refl _ _).alloc (Nat.le_refl _) _
  have N0 : Hid (Bk (w.alloc (.cells #[.int .i64 (S.n : Int), .int .i64 (S.d : Int), .int .i64 (S.r : Int), .slice a1 S.cr.length c1, .slice a2 S.ws.length c2, .slice a3 S.far.length c3, .slice a4 S.bk.length c4] 30)) w.heap.size #[.int .i64 (S.n : Int), .int .i64 (S.d : Int), .int .i64 (S.r : Int), .slice a1 S.cr.length c1, .slice a2 S.ws.length c2, .slice a3 S.far.length c3, .slice a4 S.bk.length c4] 30) := Bk.new _ _ _
  go_enter Try.func22, Try.ntmps22
  go_upto_region 2 with fail
  generalize w.alloc (.cells #[.int .i64 (S.n : Int), .int .i64 (S.d : Int), .int .i64 (S.r : Int), .slice a1 S.cr.length c1, .slice a2 S.ws.length c2, .slice a3 S.far.length c3, .slice a4 S.bk.length c4] 30) = v at *
  have dd := N0.out.cell 6
  simp only [List.getElem?_toArray, List.getElem?_cons_zero, List.getElem?_cons_succ] at dd
  have HB : Hid (Below w.heap.size w v) := B0.out
  clear N0 B0
  go_wp2_with fail
  go_loopw [5, 6] (fun x y wr => ∃ i : Nat, i ≤ S.bk.length ∧ x = .int .i64 (com (S.bk.take i) k : Int) ∧ y = .int .i64 i ∧ v = wr) (fun _ y _ => S.bk.length - (RowKit.intOf y).toNat)
  case atStart => exact ⟨0, Nat.zero_le _, by rfl, rfl, rfl⟩
  case round =>
    obtain ⟨i, hi, rfl, rfl, rfl⟩ := hrel
    have e0 : (0 : Int) ≤ (i : Int) := by omega
    by_cases hlt : i < S.bk.length
    · have e1 : (i : Int) < (S.bk.length : Int) := by omega
      have hle := com_le (S.bk.take i) k
      rw [List.length_take] at hle
      obtain ⟨g, o, rfl, hg, hc⟩ := hr i _ (by unfold vi; rw [List.getElem?_map, List.getElem?_eq_getElem hlt]; rfl)
      have hcv := (HB.out.cell (p := ⟨g, o + i, none⟩) hg).trans hc
      have ht := com_snoc hlt k
      generalize S.bk[i] = y at *
      have hx : com (S.bk.take i) k ≤ 100000 := by omega
      obtain ⟨x, hxx⟩ : ∃ x, com (S.bk.take i) k = x := ⟨_, rfl⟩
      rw [hxx] at ht hx ⊢
      have HT : Hid (com (S.bk.take (i + 1)) k = x + if y = k then 1 else 0) := ht
      clear ht hxx hle hc
      by_cases hy : y = k
      · rw [if_pos hy] at HT
        go_wp2
        go_roundw
        case rel => exact ⟨i + 1, by omega, by rw [HT.out]; go_num, by go_num, by first | rfl | trivial⟩
        case measure => simp [RowKit.intOf]; omega
      · rw [if_neg hy] at HT
        go_wp2
        go_roundw
        case rel => exact ⟨i + 1, by omega, by rw [HT.out]; go_num, by go_num, by first | rfl | trivial⟩
        case measure => simp [RowKit.intOf]; omega
    · have e1 : ¬ (i : Int) < (S.bk.length : Int) := by omega
      obtain rfl : i = S.bk.length := by omega
      rw [List.take_length]
      go_wp2
      go_ret
      exact ⟨rfl, HB.out⟩
end Go.Proofs.Ytihfekcdghmkhaa
