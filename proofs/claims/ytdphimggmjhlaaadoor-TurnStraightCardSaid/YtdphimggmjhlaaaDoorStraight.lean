/-
  The walk of Straight.
-/
import Derived.Test.YtdphimggmjhlaaaDoorChoose
import Derived.Test.YtdphimggmjhlaaaDoorFar
namespace Go.Proofs.YtdphimggmjhlaaaDoor
open Go.RowKit

set_option maxRecDepth 100000 in
set_option maxHeartbeats 1000000 in
theorem straight_any (c : Cf) (a b : Int) (w : World) (hS : Steps w) (hT : Tabs w) : Calls Tryd.prog 17 #[cfv c, .int .i64 a, .int .i64 b] w (Row w (str c a b)) := by
  obtain ⟨i0, ki, hz0, hz1, hz2⟩ := info_parts Tryd.info3
  have A0 : Hid (At w c (w.alloc (.cells (cfc c) 23))) := At.start w c
  have HS : Hid (Steps w) := hS
  have HT : Hid (Tabs w) := hT
  clear hS hT
  have F := far_any c a b
  have EF := str_fr c a b
  have LE := str_le c a b
  have CH := fun (n : Int) v (h : Tabs v) => choose_any c n b 0 (by decide) (by decide) v h
  have BE := fun (n p : Int) v (h : Steps v) => beside_any c n p v h
  have GO : ∀ n, str c n b ≠ [] → ∃ p r, chP (opt c n b) 0 = p ∧ chB (opt c n b) = true ∧ str c n b = p :: r ∧ (r ≠ [] → r = str c (bsN c n p) b) := fun n => str_go
  obtain ⟨ST, hST⟩ : ∃ ST : Int → List Int, ∀ n, str c n b = ST n := ⟨fun n => str c n b, fun _ => rfl⟩
  obtain ⟨CP, hCP⟩ : ∃ CP : Int → Int, ∀ n, chP (opt c n b) 0 = CP n := ⟨fun n => chP (opt c n b) 0, fun _ => rfl⟩
  obtain ⟨CB, hCB⟩ : ∃ CB : Int → Bool, ∀ n, chB (opt c n b) = CB n := ⟨fun n => chB (opt c n b), fun _ => rfl⟩
  simp only [hST, hCP, hCB] at *
  clear hST hCP hCB
  obtain ⟨S, hS⟩ : ∃ S, ST a = S := ⟨_, rfl⟩
  have H0 : Hid (ST a = S) := hS
  rw [hS] at EF LE ⊢
  clear hS
  generalize fr c a b = D at *
  generalize hn : S.length = n at *
  have Hn : Hid (S.length = n) := hn
  have e1 : IntKind.i64.wrap (D + 1) = (n : Int) := by rw [IntWalk.i64_in _ (by omega)]; exact EF
  clear hn EF
  generalize bsN c = M at *
  generalize bsB c = G at *
  obtain ⟨cw, ch, cl, cd, cr, ci, cb, we, ca⟩ := c
  simp only [cfv, cfc] at *
  have HGO : Hid (∀ n, ST n ≠ [] → ∃ p r, CP n = p ∧ CB n = true ∧ ST n = p :: r ∧ (r ≠ [] → r = ST (M n p))) := GO
  clear GO
  go_enter Tryd.func17, Tryd.ntmps17
  go_wp2_with fail
  go_at_call 22
  refine (F _).mono ?_
  rintro e v1 ⟨rfl, hb⟩
  have HA1 : Hid (At w _ v1) := A0.out.trans hb
  clear hb F A0
  go_wp2_with fail
  go_loopw [1, 7, 15] (fun x v i wr => ∃ (m : Int) (P Q : List Int), x = .int .i64 m ∧ i = .int .i64 (P.length : Nat) ∧ P ++ Q = S ∧ (Q ≠ [] → Q = ST m) ∧ Own 3 wr (w.heap.size + 1) v (vi P) ∧ At w ⟨cw, ch, cl, cd, cr, ci, cb, we, ca⟩ wr) (fun _ _ i _ => n - (RowKit.intOf i).toNat)
  case atStart => exact ⟨a, [], S, rfl, rfl, rfl, fun _ => H0.out.symm, Own.nil _ _ _, HA1.out⟩
  case round =>
    obtain ⟨m, P, Q, rfl, rfl, hPQ, hQ, own, hat⟩ := hrel
    have hlen : P.length + Q.length = n := by rw [← Hn.out, ← hPQ, List.length_append]
    have hsz : w.heap.size + 1 ≤ wr.heap.size := hat.size
    by_cases hq : Q = []
    · subst hq
      have hP : P = S := by rw [← hPQ]; simp
      subst hP
      have hln : P.length = n := by simpa using hlen
      have HO : Hid (Own 3 wr (w.heap.size + 1) _ (vi P)) := own
      have HAT : Hid (At w ⟨cw, ch, cl, cd, cr, ci, cb, we, ca⟩ wr) := hat
      rw [hln]
      clear own hat hPQ hQ hlen hln
      go_wp2
      go_ret
      exact Row.mk (HO.out.mono (by omega)) HAT.out.below
    · obtain ⟨p, r, c1, c2, c3, c4⟩ := HGO.out m (by rw [← hQ hq]; exact hq)
      have hQ' := hQ hq
      rw [c3] at hQ'
      subst hQ'
      have hk : P.length < n := by rw [List.length_cons] at hlen; omega
      have hltz : (P.length : Int) < n := by omega
      have K1 := CH m wr (hat.tabs HT.out)
      rw [c1, c2] at K1
      have K2 := BE m p
      have HR : Hid ((P ++ [p]) ++ r = S ∧ (r ≠ [] → r = ST (M m p))) := ⟨by rw [← hPQ]; simp, c4⟩
      have hll : (vi P).length ≤ 1000000 := by rw [vi_len]; omega
      have hvs : Hid (vi P ++ [.int .i64 p] = vi (P ++ [p])) := vi_snoc P p
      have hpl : Hid ((P ++ [p]).length = P.length + 1) := by show (P ++ [p]).length = P.length + 1; simp
      clear c1 c2 c3 c4 CH BE hlen hPQ hQ hq
      generalize M m p = m' at *
      generalize G m p = g at *
      generalize hPl : P.length = pl at *
      obtain ⟨x0, x1, x2, x3, x4, x5, x6, x7, x8⟩ := hat.cells
      simp only at x0 x1 x2 x3 x4 x5 x6 x7 x8
      have HOWN : Hid (Own 3 wr (w.heap.size + 1) _ (vi P)) := own
      have HAT : Hid (At w ⟨cw, ch, cl, cd, cr, ci, cb, we, ca⟩ wr) := hat
      clear own hat
      go_wp2_with fail
      go_at_call 10
      refine K1.mono ?_
      rintro e wa ⟨rfl, hb⟩
      have own : Own 3 wa (w.heap.size + 1) _ (vi P) := HOWN.out.below hb
      have HAT2 : Hid (At w ⟨cw, ch, cl, cd, cr, ci, cb, we, ca⟩ wa) := HAT.out.trans hb
      have hsa : w.heap.size + 1 ≤ wa.heap.size := HAT2.out.size
      clear hb HOWN HAT K1 x0 x1 x2 x3 x4 x5 x6 x7 x8 hsz
      go_wp2_with (at_builtin; refine wpList_app_one rfl (.tmp 24) (.tmp 26) 29 3 i0 (.int .i64 0) 8 rfl Tryd.underlying29 ki hz0 hz1 hz2 rfl (by decide) (w.heap.size + 1) wa _ _ (.int .i64 p) rfl own rfl rfl hll hsa ?_; intro v1' wb o1 kb; have ab : Hid (At w ⟨cw, ch, cl, cd, cr, ci, cb, we, ca⟩ wb) := At.of (kb.2.1 _ HAT2.out); obtain ⟨x0, x1, x2, x3, x4, x5, x6, x7, x8⟩ := ab.out.cells; clear kb own; simp only at x0 x1 x2 x3 x4 x5 x6 x7 x8)
      go_at_call 21
      refine (K2 _ (ab.out.steps HS.out)).mono ?_
      rintro e wd ⟨rfl, hb⟩
      have O2 : Hid (Own 3 wd (w.heap.size + 1) v1' (vi (P ++ [p]))) := by
        have o2 := o1.below hb
        rw [hvs.out] at o2
        exact o2
      have HAT3 : Hid (At w ⟨cw, ch, cl, cd, cr, ci, cb, we, ca⟩ wd) := ab.out.trans hb
      clear hb K2 x0 x1 x2 x3 x4 x5 x6 x7 x8 o1 ab HAT2
      go_wp2
      go_roundw
      case rel => exact ⟨m', P ++ [p], r, rfl, by rw [hpl.out]; go_num, HR.out.1, HR.out.2, O2.out, HAT3.out⟩
      case measure => simp [RowKit.intOf]; omega
end Go.Proofs.YtdphimggmjhlaaaDoor
