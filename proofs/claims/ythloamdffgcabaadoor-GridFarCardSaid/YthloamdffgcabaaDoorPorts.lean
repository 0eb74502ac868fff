/-
  The walks of both Ports, and of the document's Same.
-/
import Derived.Test.YthloamdffgcabaaDoorRbeside
import Derived.Test.YthloamdffgcabaaDoorOwn
namespace Go.Proofs.YthloamdffgcabaaDoor
open Go.RowKit

theorem At.of {w v : World} {c : Cf} (h : Below (w.heap.size + 1) (w.alloc (.cells (cfc c) 23)) v) : At w c v := h

def vi (l : List Int) : List Value := l.map fun n => .int .i64 n
theorem vi_len (l : List Int) : (vi l).length = l.length := by simp [vi]
theorem vi_snoc (l : List Int) (n : Int) : vi l ++ [.int .i64 n] = vi (l ++ [n]) := by simp [vi]
theorem vi_at {l : List Int} {k : Nat} (h : k < l.length) : (vi l)[k]? = some (.int .i64 (l.getD k 0)) := by simp [vi, h]

/-- A list of numbers is answered, in new memory. -/
def Row (w : World) (l : List Int) (e : Ending) (w' : World) : Prop := ∃ v, e = .returned v ∧ Own 3 w' w.heap.size v (vi l) ∧ Below w.heap.size w w'
theorem Row.mk {w w' : World} {l : List Int} {v : Value} (h : Own 3 w' w.heap.size v (vi l)) (hb : Below w.heap.size w w') : Row w l (.returned v) w' := ⟨v, rfl, h, hb⟩

theorem prtK_same {c : Cf} {n : Int} {k : Nat} (h : (decide ((k : Int) ≠ 0) && bsB c n k) = false) : prtK c n (k + 1) = prtK c n k := by rw [prtK_succ, h]; rfl
theorem prtK_more {c : Cf} {n : Int} {k : Nat} (h : (decide ((k : Int) ≠ 0) && bsB c n k) = true) : vi (prtK c n k) ++ [.int .i64 k] = vi (prtK c n (k + 1)) := by rw [prtK_succ, h, vi_snoc]; rfl

theorem Tryd.info3 : (Tryd.prog.info? 3).map (fun i => (i.zero, i.size, i.bytes)) = some (some (.int .i64 0), 1, 8) := by kernel_rfl

set_option maxRecDepth 100000 in
set_option maxHeartbeats 1000000 in
theorem ports_any (c : Cf) (n : Int) (w : World) (hS : Steps w) : Calls Tryd.prog 25 #[cfv c, .int .i64 n] w (Row w (prt c n)) := by
  obtain ⟨i0, ki, hz0, hz1, hz2⟩ := info_parts Tryd.info3
  have A0 : Hid (At w c (w.alloc (.cells (cfc c) 23))) := At.start w c
  have HS : Hid (Steps w) := hS
  clear hS
  have KB := fun (k : Nat) v (h : Steps v) => beside_any c n k v h
  have SM := fun k => @prtK_same c n k
  have MO := fun k => @prtK_more c n k
  have LN := fun k => prtK_length c n k
  have P0 : prtK c n 0 = [] := rfl
  unfold prt
  generalize prtK c n = P at *
  generalize bsN c n = N at *
  generalize bsB c n = G at *
  obtain ⟨cw, ch, cl, cd, cr, ci, cb, we, ca⟩ := c
  simp only [cfv, cfc] at *
  go_enter Tryd.func25, Tryd.ntmps25
  go_wp2_with fail
  go_loopw [5, 9] (fun v i wr => ∃ k : Nat, k ≤ 5 ∧ i = .int .i64 k ∧ Own 3 wr (w.heap.size + 1) v (vi (P k)) ∧ At w ⟨cw, ch, cl, cd, cr, ci, cb, we, ca⟩ wr) (fun _ i _ => 5 - (RowKit.intOf i).toNat)
  case atStart => exact ⟨0, Nat.zero_le _, rfl, by rw [P0]; exact Own.nil _ _ _, A0.out⟩
  case round =>
    obtain ⟨k, hk, rfl, own, hat⟩ := hrel
    have hsz : w.heap.size + 1 ≤ wr.heap.size := hat.size
    by_cases hlt : k < 5
    · have hltz : (k : Int) < 5 := by omega
      obtain ⟨x0, x1, x2, x3, x4, x5, x6, x7, x8⟩ := hat.cells
      have hz : w.heap.size < wr.heap.size := by omega
      simp only at x0 x1 x2 x3 x4 x5 x6 x7 x8
      have K := KB k wr (hat.steps HS.out)
      have sm := SM k
      have mo := MO k
      have hll : (vi (P k)).length ≤ 1000000 := by rw [vi_len]; have := LN k; omega
      have HSM : Hid ((decide ((k : Int) ≠ 0) && G k) = false → P (k + 1) = P k) := sm
      have HMO : Hid ((decide ((k : Int) ≠ 0) && G k) = true → vi (P k) ++ [.int .i64 k] = vi (P (k + 1))) := mo
      clear sm mo SM MO LN KB
      generalize hLL : vi (P k) = LL at *
      have HLL : Hid (vi (P k) = LL) := hLL
      clear hLL
      have HOWN : Hid (Own 3 wr (w.heap.size + 1) _ LL) := own
      have HAT : Hid (At w ⟨cw, ch, cl, cd, cr, ci, cb, we, ca⟩ wr) := hat
      clear own hat
      generalize N k = M at *
      generalize hg : G k = g at *
      clear hg
      go_wp2_with fail
      go_at_call 15
      refine K.mono ?_
      rintro e wa ⟨rfl, hb⟩
      have own : Own 3 wa (w.heap.size + 1) _ LL := HOWN.out.below hb
      have HAT2 : Hid (At w ⟨cw, ch, cl, cd, cr, ci, cb, we, ca⟩ wa) := HAT.out.trans hb
      have hsa : w.heap.size + 1 ≤ wa.heap.size := HAT2.out.size
      clear hb HOWN HAT K x0 x1 x2 x3 x4 x5 x6 x7 x8 hz hsz
      cases g with
      | false =>
        have HO : Hid (Own 3 wa (w.heap.size + 1) _ LL) := own
        clear own
        go_wp2
        go_roundw
        case rel => exact ⟨k + 1, by omega, by go_num, by rw [HSM.out (by simp), HLL.out]; exact HO.out, HAT2.out⟩
        case measure => simp [RowKit.intOf]; omega
      | true =>
        by_cases h0 : k = 0
        · subst h0
          have HO : Hid (Own 3 wa (w.heap.size + 1) _ LL) := own
          clear own
          go_wp2
          go_roundw
          case rel => exact ⟨0 + 1, by omega, by go_num, by rw [HSM.out (by simp), HLL.out]; exact HO.out, HAT2.out⟩
          case measure => simp [RowKit.intOf]
        · have hk0 : ¬ (k : Int) = 0 := by omega
          go_wp2_with (at_builtin; refine wpList_app_one rfl (.tmp 24) (.tmp 26) 41 3 i0 (.int .i64 0) 8 rfl Tryd.underlying41 ki hz0 hz1 hz2 rfl (by decide) (w.heap.size + 1) wa _ _ (.int .i64 k) rfl own rfl rfl hll hsa ?_; intro v1' wb o1 kb; have ab := At.of (kb.2.1 _ HAT2.out); clear kb own)
          rw [HMO.out (by simp; omega)] at o1
          go_roundw
          case rel => exact ⟨k + 1, by omega, by go_num, o1, ab⟩
          case measure => simp [RowKit.intOf]; omega
    · obtain rfl : k = 5 := by omega
      have HO : Hid (Own 3 wr (w.heap.size + 1) _ (vi (P 5))) := own
      have HAT : Hid (At w ⟨cw, ch, cl, cd, cr, ci, cb, we, ca⟩ wr) := hat
      clear own hat
      go_wp2
      go_ret
      exact Row.mk (HO.out.mono (by omega)) HAT.out.below

set_option maxRecDepth 100000 in
set_option maxHeartbeats 1000000 in
theorem rports_any (c : Cf) (n : Int) (w : World) : Calls Tryd.prog 26 #[cfv c, .int .i64 n] w (Row w (prt c n)) := by
  obtain ⟨i0, ki, hz0, hz1, hz2⟩ := info_parts Tryd.info3
  have A0 : Hid (At w c (w.alloc (.cells (cfc c) 23))) := At.start w c
  have KB := fun (k : Nat) v => rbeside_any c n k v
  have SM := fun k => @prtK_same c n k
  have MO := fun k => @prtK_more c n k
  have LN := fun k => prtK_length c n k
  have P0 : prtK c n 1 = [] := rfl
  unfold prt
  generalize prtK c n = P at *
  generalize bsN c n = N at *
  generalize bsB c n = G at *
  obtain ⟨cw, ch, cl, cd, cr, ci, cb, we, ca⟩ := c
  simp only [cfv, cfc] at *
  go_enter Tryd.func26, Tryd.ntmps26
  go_wp2_with fail
  go_loopw [5, 6] (fun v i wr => ∃ k : Nat, 1 ≤ k ∧ k ≤ 5 ∧ i = .int .i64 k ∧ Own 3 wr (w.heap.size + 1) v (vi (P k)) ∧ At w ⟨cw, ch, cl, cd, cr, ci, cb, we, ca⟩ wr) (fun _ i _ => 5 - (RowKit.intOf i).toNat)
  case atStart => exact ⟨1, Nat.le_refl _, by omega, rfl, by rw [P0]; exact Own.nil _ _ _, A0.out⟩
  case round =>
    obtain ⟨k, h1, hk, rfl, own, hat⟩ := hrel
    have hsz : w.heap.size + 1 ≤ wr.heap.size := hat.size
    by_cases hlt : k < 5
    · have hltz : (k : Int) ≤ 4 := by omega
      have hk0 : ¬ (k : Int) = 0 := by omega
      obtain ⟨x0, x1, x2, x3, x4, x5, x6, x7, x8⟩ := hat.cells
      have hz : w.heap.size < wr.heap.size := by omega
      simp only at x0 x1 x2 x3 x4 x5 x6 x7 x8
      have K := KB k wr
      have sm := SM k
      have mo := MO k
      have hll : (vi (P k)).length ≤ 1000000 := by rw [vi_len]; have := LN k; omega
      have HSM : Hid ((decide ((k : Int) ≠ 0) && G k) = false → P (k + 1) = P k) := sm
      have HMO : Hid ((decide ((k : Int) ≠ 0) && G k) = true → vi (P k) ++ [.int .i64 k] = vi (P (k + 1))) := mo
      clear sm mo SM MO LN KB
      generalize hLL : vi (P k) = LL at *
      have HLL : Hid (vi (P k) = LL) := hLL
      clear hLL
      have HOWN : Hid (Own 3 wr (w.heap.size + 1) _ LL) := own
      have HAT : Hid (At w ⟨cw, ch, cl, cd, cr, ci, cb, we, ca⟩ wr) := hat
      clear own hat
      generalize N k = M at *
      generalize hg : G k = g at *
      clear hg
      go_wp2_with fail
      go_at_call 16
      refine K.mono ?_
      rintro e wa ⟨rfl, hb⟩
      have own : Own 3 wa (w.heap.size + 1) _ LL := HOWN.out.below hb
      have HAT2 : Hid (At w ⟨cw, ch, cl, cd, cr, ci, cb, we, ca⟩ wa) := HAT.out.trans hb
      have hsa : w.heap.size + 1 ≤ wa.heap.size := HAT2.out.size
      clear hb HOWN HAT K x0 x1 x2 x3 x4 x5 x6 x7 x8 hz hsz
      cases g with
      | false =>
        have HO : Hid (Own 3 wa (w.heap.size + 1) _ LL) := own
        clear own
        go_wp2
        go_roundw
        case rel => exact ⟨k + 1, by omega, by omega, by go_num, by rw [HSM.out (by simp), HLL.out]; exact HO.out, HAT2.out⟩
        case measure => simp [RowKit.intOf]; omega
      | true =>
        go_wp2_with (at_builtin; refine wpList_app_one rfl (.tmp 21) (.tmp 23) 41 3 i0 (.int .i64 0) 8 rfl Tryd.underlying41 ki hz0 hz1 hz2 rfl (by decide) (w.heap.size + 1) wa _ _ (.int .i64 k) rfl own rfl rfl hll hsa ?_; intro v1' wb o1 kb; have ab := At.of (kb.2.1 _ HAT2.out); clear kb own)
        rw [HMO.out (by simp; omega)] at o1
        go_roundw
        case rel => exact ⟨k + 1, by omega, by omega, by go_num, o1, ab⟩
        case measure => simp [RowKit.intOf]; omega
    · obtain rfl : k = 5 := by omega
      have HO : Hid (Own 3 wr (w.heap.size + 1) _ (vi (P 5))) := own
      have HAT : Hid (At w ⟨cw, ch, cl, cd, cr, ci, cb, we, ca⟩ wr) := hat
      clear own hat
      go_wp2
      go_ret
      exact Row.mk (HO.out.mono (by omega)) HAT.out.below

set_option maxRecDepth 100000 in
theorem same_any (l : List Int) (a b : Option Addr) (x y : Nat) (w : World) (hl : l.length ≤ 1000) (ha : Rd w a (vi l)) (hb : Rd w b (vi l)) :
    Calls Tryd.prog 24 #[.slice a l.length x, .slice b l.length y] w fun e w' => e = .returned (.bool true) ∧ ∃ n, w' = w.drewN n := by
  obtain ⟨n, hn⟩ : ∃ n, l.length = n := ⟨_, rfl⟩
  have HN : Hid (l.length = n) := hn
  rw [hn] at hl ⊢
  clear hn
  have HA : Hid (Rd w a (vi l)) := ha
  have HB : Hid (Rd w b (vi l)) := hb
  clear ha hb
  go_enter Tryd.func24, Tryd.ntmps24
  go_wp2_with fail
  go_loopw [5] (fun i wr => ∃ k m : Nat, k ≤ n ∧ i = .int .i64 k ∧ wr = w.drewN m) (fun i _ => n - (RowKit.intOf i).toNat)
  case atStart => exact ⟨0, 0, Nat.zero_le _, rfl, rfl⟩
  case round =>
    obtain ⟨k, m, hk, rfl, rfl⟩ := hrel
    by_cases hlt : k < n
    · have hltz : (k : Int) < n := by omega
      have hk0 : (0 : Int) ≤ k := by omega
      have ht : ((k : Int)).toNat = k := by omega
      have hv := vi_at (l := l) (k := k) (by rw [HN.out]; exact hlt)
      obtain ⟨g, e1, hg, c1⟩ := HA.out k _ hv
      obtain ⟨g', e2, hg', c2⟩ := HB.out k _ hv
      clear hv hg hg'
      generalize l.getD k 0 = z at *
      subst e1
      subst e2
      go_wp2_with fail
      go_quiet (fail)
      go_wp2
      go_roundw
      case rel => exact ⟨k + 1, _, by omega, by go_num, rfl⟩
      case measure => simp [RowKit.intOf]; omega
    · have hltz : ¬ (k : Int) < n := by omega
      go_wp2
      go_ret
      exact ⟨rfl, _, rfl⟩
end Go.Proofs.YthloamdffgcabaaDoor
