/-
  The walks of Words, of the document's Words, of moves, and of whether numbers are sorted.
-/
import Derived.Test.YtaohimmmhpmgdaaDoorWork
import Derived.Test.YtaohimmmhpmgdaaDoorTabs
import Derived.Test.YtaohimmmhpmgdaaDoorPt
namespace Go.Proofs.YtaohimmmhpmgdaaDoor
open Go.RowKit

theorem words_any (h b : Int) (w : World) (hh : h ≤ 1000000) : Calls Tryd.prog 10 #[.int .i64 h, .int .i64 b] w fun e w' => e = .returned (.int .i64 (wds h b)) ∧ w = w' := by
  by_cases h1 : h < 1
  · rw [wds_no (by unfold okW; simp; omega)]
    go_enter Tryd.func10, Tryd.ntmps10
    go_wp2
    go_ret
    exact ⟨rfl, rfl⟩
  · by_cases h2 : b < 0
    · rw [wds_no (by unfold okW; simp; omega)]
      go_enter Tryd.func10, Tryd.ntmps10
      go_wp2
      go_ret
      exact ⟨rfl, rfl⟩
    · by_cases h3 : 64 < b
      · rw [wds_no (by unfold okW; simp; omega)]
        go_enter Tryd.func10, Tryd.ntmps10
        go_wp2
        go_ret
        exact ⟨rfl, rfl⟩
      · rw [wds_yes (by unfold okW; simp; omega)]
        obtain ⟨q, hq⟩ : ∃ q, b / 6 = q := ⟨_, rfl⟩
        obtain ⟨r, hr⟩ : ∃ r, b % 6 = r := ⟨_, rfl⟩
        have e1 : b.tdiv 6 = q := by rw [Int.tdiv_eq_ediv_of_nonneg (by omega)]; exact hq
        have e2 : b.tmod 6 = r := by rw [Int.tmod_eq_emod_of_nonneg (by omega)]; exact hr
        have hb6 : IntKind.i64.wrap q = q := IntWalk.i64_in _ (by omega)
        obtain ⟨R, hR⟩ : ∃ R, h + tl b = R := ⟨_, rfl⟩
        rw [hR]
        by_cases hr1 : 1 < r
        · obtain ⟨s, hs⟩ : ∃ s, q + 1 = s := ⟨_, rfl⟩
          have e4 : IntKind.i64.wrap (q + 1) = s := by rw [IntWalk.i64_in _ (by omega)]; exact hs
          have e5 : IntKind.i64.wrap (h + s) = R := by rw [IntWalk.i64_in _ (by omega), ← hR]; unfold tl; split <;> omega
          have g1 : ¬ s < 1 := by omega
          have g2 : 1 ≤ s := by omega
          have g3 : ¬ r < 1 := by omega
          have g4 : ¬ r ≤ 1 := by omega
          by_cases g5 : 1 < s
          · clear hq hr hs hR
            go_enter Tryd.func10, Tryd.ntmps10
            go_wp2
            go_ret
            exact ⟨rfl, rfl⟩
          · obtain rfl : s = 1 := by omega
            clear hq hr hs hR
            go_enter Tryd.func10, Tryd.ntmps10
            go_wp2
            go_ret
            exact ⟨rfl, rfl⟩
        · obtain ⟨s, hs⟩ : ∃ s, q + r = s := ⟨_, rfl⟩
          have e4 : IntKind.i64.wrap (q + r) = s := by rw [IntWalk.i64_in _ (by omega)]; exact hs
          by_cases g5 : 1 < s
          · have e5 : IntKind.i64.wrap (h + s) = R := by rw [IntWalk.i64_in _ (by omega), ← hR]; unfold tl; split <;> omega
            have g1 : ¬ s < 1 := by omega
            clear hq hr hs hR
            go_enter Tryd.func10, Tryd.ntmps10
            go_wp2
            go_ret
            exact ⟨rfl, rfl⟩
          · have e5 : IntKind.i64.wrap (h + 1) = R := by rw [IntWalk.i64_in _ (by omega), ← hR]; unfold tl; split <;> omega
            have e6 : s = 1 → IntKind.i64.wrap (h + s) = R := by rintro rfl; exact e5
            by_cases g1 : s < 1
            · clear hq hr hs hR e6
              go_enter Tryd.func10, Tryd.ntmps10
              go_wp2
              go_ret
              exact ⟨rfl, rfl⟩
            · have e7 := e6 (by omega)
              clear hq hr hs hR e6
              go_enter Tryd.func10, Tryd.ntmps10
              go_wp2
              go_ret
              exact ⟨rfl, rfl⟩

theorem rwords_any (h b : Int) (w : World) (hh : h ≤ 1000000) : Calls Tryd.prog 11 #[.int .i64 h, .int .i64 b] w fun e w' => e = .returned (.int .i64 (wds h b)) ∧ w = w' := by
  by_cases h1 : h < 1
  · rw [wds_no (by unfold okW; simp; omega)]
    go_enter Tryd.func11, Tryd.ntmps11
    go_wp2
    go_ret
    exact ⟨rfl, rfl⟩
  · by_cases h2 : b < 0
    · rw [wds_no (by unfold okW; simp; omega)]
      go_enter Tryd.func11, Tryd.ntmps11
      go_wp2
      go_ret
      exact ⟨rfl, rfl⟩
    · by_cases h3 : 64 < b
      · rw [wds_no (by unfold okW; simp; omega)]
        go_enter Tryd.func11, Tryd.ntmps11
        go_wp2
        go_ret
        exact ⟨rfl, rfl⟩
      · rw [wds_yes (by unfold okW; simp; omega)]
        obtain ⟨R, hR⟩ : ∃ R, h + tl b = R := ⟨_, rfl⟩
        rw [hR]
        have HR : Hid (h + tl b = R) := hR
        clear hR
        go_enter Tryd.func11, Tryd.ntmps11
        go_wp2_with fail
        go_loopw [5, 6] (fun x y wr => ∃ n l : Int, ∃ k : Nat, x = .int .i64 n ∧ y = .int .i64 l ∧ wr = w ∧ Hid (n = h + k ∧ l = b - 6 * k ∧ 0 ≤ l ∧ (k = 0 ∨ 1 ≤ l))) (fun _ y _ => (RowKit.intOf y).toNat)
        case atStart => exact ⟨h, b, 0, rfl, rfl, rfl, by simp, by simp, by omega, Or.inl rfl⟩
        case round =>
          obtain ⟨n, l, k, rfl, rfl, rfl, HK⟩ := hrel
          obtain ⟨k1, k2, k3, k4⟩ := HK.out
          by_cases hlt : 6 < l
          · have e1 : IntKind.i64.wrap (n + 1) = n + 1 := IntWalk.i64_in _ (by omega)
            have e2 : IntKind.i64.wrap (l - 6) = l - 6 := IntWalk.i64_in _ (by omega)
            clear k1 k2 k3 k4
            go_wp2
            go_roundw
            case rel => exact ⟨n + 1, l - 6, k + 1, rfl, rfl, by simp, by have := HK.out; unfold Hid; omega⟩
            case measure => simp [RowKit.intOf]; omega
          · have e1 : IntKind.i64.wrap (n + 1) = R := by
              rw [IntWalk.i64_in _ (by omega), ← HR.out]
              unfold tl
              split <;> omega
            clear k1 k2 k3 k4
            go_wp2
            go_ret
            exact ⟨rfl, rfl⟩

theorem moves_any (n : Int) (w : World) (h0 : -1000 ≤ n) (h1 : n ≤ 1000) : Calls Tryd.prog 27 #[.int .i64 n] w fun e w' => e = .returned (.int .i64 (mv n)) ∧ w = w' := by
  obtain ⟨a, ha⟩ : ∃ a, 3 * n = a := ⟨_, rfl⟩
  obtain ⟨b, hb⟩ : ∃ b, 1 + a = b := ⟨_, rfl⟩
  obtain ⟨R, hR⟩ : ∃ R, mv n = R := ⟨_, rfl⟩
  have e1 : IntKind.i64.wrap (3 * n) = a := by rw [IntWalk.i64_in _ (by omega)]; exact ha
  have e2 : IntKind.i64.wrap (1 + a) = b := by rw [IntWalk.i64_in _ (by omega)]; exact hb
  have e3 : IntKind.i64.wrap (b + 1) = R := by rw [IntWalk.i64_in _ (by omega), ← hR]; unfold mv; omega
  rw [hR]
  clear ha hb hR
  go_enter Tryd.func27, Tryd.ntmps27
  go_wp2
  go_ret
  exact ⟨rfl, rfl⟩

theorem less_any (a b : Int) (w : World) : Calls Tryd.prog 38 #[.int .i64 a, .int .i64 b] w fun e w' => e = .returned (.bool (decide (a < b))) ∧ w = w' := by
  have K1 := isNaN_any a
  go_enter Tryd.func38, Tryd.ntmps38
  go_wp2_with fail
  go_at_call 43
  refine (K1 _).mono ?_
  rintro e v1 ⟨rfl, rfl⟩
  go_wp2
  go_ret
  exact ⟨rfl, rfl⟩

theorem srtB_no {l : List Int} {k : Nat} (h : k + 1 < l.length) (hn : ¬ l.getD k 0 ≤ l.getD (k + 1) 0) : srtB l = false := by
  cases e : srtB l with
  | false => rfl
  | true => exact absurd ((srtB_iff l).1 e k h) hn
theorem RdA.num {w : World} {s : Option Addr} {l : List Int} {i : Nat} (h : RdA w s (vi l)) (hi : i < l.length) : ∃ g o, s = some ⟨g, o, none⟩ ∧ g < w.heap.size ∧ w.cell? ⟨g, o + i, none⟩ = some (.int .i64 (l.getD i 0)) := h i _ (vi_at hi)
theorem RdA.num2 {w : World} {s : Option Addr} {l : List Int} {i j : Nat} (h : RdA w s (vi l)) (hi : i < l.length) (hj : j < l.length) : ∃ g o, s = some ⟨g, o, none⟩ ∧ g < w.heap.size ∧ w.cell? ⟨g, o + i, none⟩ = some (.int .i64 (l.getD i 0)) ∧ w.cell? ⟨g, o + j, none⟩ = some (.int .i64 (l.getD j 0)) := by
  obtain ⟨g, o, rfl, h1, h2⟩ := h.num hi
  obtain ⟨g', o', e, _, h3⟩ := h.num hj
  simp only [Option.some.injEq, Addr.mk.injEq] at e
  obtain ⟨rfl, rfl, _⟩ := e
  exact ⟨g, o, rfl, h1, h2, h3⟩

/-- The same world, but for draws. -/
def Dr (w w' : World) : Prop := ∃ n, w' = w.drewN n
theorem Dr.refl (w : World) : Dr w w := ⟨0, rfl⟩
theorem Dr.more {w w' : World} (h : Dr w w') (n : Nat) : Dr w (w'.drewN n) := by
  obtain ⟨m, rfl⟩ := h
  exact ⟨m + n, World.drewN_drewN _ _ _⟩
theorem Dr.trans {w w' w'' : World} (h : Dr w w') (h' : Dr w' w'') : Dr w w'' := by
  obtain ⟨n, rfl⟩ := h'
  exact h.more n
theorem Dr.cell {w w' : World} (h : Dr w w') (a : Addr) : w'.cell? a = w.cell? a := by
  obtain ⟨m, rfl⟩ := h
  rfl
theorem Dr.below {w w' : World} (h : Dr w w') : Below w.heap.size w w' := by
  obtain ⟨m, rfl⟩ := h
  exact ⟨rfl, rfl, rfl, Nat.le_refl _, fun _ _ => rfl⟩

set_option maxHeartbeats 1000000 in
theorem isSorted_any (l : List Int) (s : Option Addr) (cap : Nat) (w : World) (hl : l.length ≤ 100) (hr : RdA w s (vi l)) :
    Calls Tryd.prog 26 #[.slice s l.length cap] w fun e w' => e = .returned (.bool (srtB l)) ∧ Dr w w' := by
  by_cases h0 : l.length = 0
  · have e : srtB l = true := by unfold srtB; rw [h0]; rfl
    rw [e, h0]
    clear hr h0 e hl
    go_enter Tryd.func26, Tryd.ntmps26
    go_wp2_with fail
    go_loopw [3] (fun i wr => i = .int .i64 (-1) ∧ wr = w) (fun _ _ => 0)
    case atStart => exact ⟨rfl, rfl⟩
    case round =>
      obtain ⟨rfl, rfl⟩ := hrel
      go_wp2
      go_ret
      exact ⟨rfl, Dr.refl _⟩
  · obtain ⟨n, hn⟩ : ∃ n, l.length = n := ⟨_, rfl⟩
    have HN : Hid (l.length = n) := hn
    have HR : Hid (RdA w s (vi l)) := hr
    rw [hn] at h0 hl ⊢
    have e0 : IntKind.i64.wrap ((n : Int) - 1) = ((n - 1 : Nat) : Int) := by rw [IntWalk.i64_in _ (by omega)]; omega
    generalize hn1 : n - 1 = n1 at *
    obtain ⟨B, hB⟩ : ∃ B, srtB l = B := ⟨_, rfl⟩
    have HB : Hid (srtB l = B) := hB
    rw [hB]
    clear hr hn hB
    go_enter Tryd.func26, Tryd.ntmps26
    go_wp2_with fail
    go_loopw [3] (fun i wr => ∃ k : Nat, k < n ∧ i = .int .i64 k ∧ Dr w wr ∧ Hid (∀ j, k ≤ j → j + 1 < n → l.getD j 0 ≤ l.getD (j + 1) 0)) (fun i _ => (RowKit.intOf i).toNat)
    case atStart => exact ⟨n1, by omega, rfl, Dr.refl _, fun j h1 h2 => by omega⟩
    case round =>
      obtain ⟨k, hk, rfl, hd, HA⟩ := hrel
      have HD : Hid (Dr w wr) := hd
      clear hd
      cases k with
      | zero =>
        have hb : B = true := by
          rw [← HB.out, srtB_iff]
          intro i hi
          exact HA.out i (Nat.zero_le _) (by rw [← HN.out]; exact hi)
        subst hb
        clear HA
        go_wp2
        go_ret
        exact ⟨rfl, HD.out⟩
      | succ k =>
        have hk1 : k < n := by omega
        obtain ⟨g, o, rfl, hg, c1, c2⟩ := HR.out.num2 (i := k + 1) (j := k) (by rw [HN.out]; exact hk) (by rw [HN.out]; exact hk1)
        have d0 := HA.out
        have lt := less_any (l.getD (k + 1) 0) (l.getD k 0)
        obtain ⟨i1, hi1⟩ : ∃ i1, k + 1 = i1 := ⟨_, rfl⟩
        have HI : Hid (k + 1 = i1) := hi1
        have c1' : ∀ m, (wr.drewN m).cell? ⟨g, o + i1, none⟩ = some (.int .i64 (l.getD (k + 1) 0)) := fun m => by rw [← hi1]; exact (HD.out.cell _).trans c1
        have c2' : ∀ m, (wr.drewN m).cell? ⟨g, o + k, none⟩ = some (.int .i64 (l.getD k 0)) := fun m => (HD.out.cell _).trans c2
        have HV : Hid (¬ l.getD k 0 ≤ l.getD (k + 1) 0 → B = false) := show _ from fun h => by rw [← HB.out]; exact srtB_no (by rw [HN.out]; exact hk) h
        have HV2 : Hid (l.getD k 0 ≤ l.getD (k + 1) 0 → ∀ j, k ≤ j → j + 1 < n → l.getD j 0 ≤ l.getD (j + 1) 0) := show _ from fun h j h1 h2 => by
          by_cases e : j = k
          · subst e; exact h
          · exact d0 j (by omega) h2
        clear c1 c2 hg d0 HA
        have hk2 : i1 < n := by omega
        have p1 : (0 : Int) < (i1 : Int) := by omega
        have p2 : (i1 : Int) < (n : Int) := by omega
        have p3 : (k : Int) < (n : Int) := by omega
        have p4 : IntKind.i64.wrap ((i1 : Int) - 1) = (k : Int) := by rw [IntWalk.i64_in _ (by omega)]; omega
        have p5 : (0 : Int) ≤ (k : Int) := by omega
        have p6 : k < i1 := by omega
        rw [hi1]
        clear hi1 hk
        generalize l.getD (k + 1) 0 = x at *
        generalize l.getD k 0 = y at *
        by_cases hxy : x < y
        · obtain rfl := HV.out (by omega)
          have d : decide (x < y) = true := by simpa using hxy
          rw [d] at lt
          clear HV HV2
          go_wp2_with fail
          go_quiet ((go_at_call 38; exact Calls.quiet_of_same ((lt _).mono fun _ _ h => ⟨h.1, h.2.symm⟩)))
          go_wp2
          go_ret
          exact ⟨rfl, HD.out.more _⟩
        · have d : decide (x < y) = false := by simpa using hxy
          rw [d] at lt
          go_wp2_with fail
          go_quiet ((go_at_call 38; exact Calls.quiet_of_same ((lt _).mono fun _ _ h => ⟨h.1, h.2.symm⟩)))
          go_wp2
          go_roundw
          case rel => exact ⟨k, hk1, by go_num, HD.out.more _, HV2.out (by omega)⟩
          case measure => simp [RowKit.intOf]; omega
end Go.Proofs.YtaohimmmhpmgdaaDoor
