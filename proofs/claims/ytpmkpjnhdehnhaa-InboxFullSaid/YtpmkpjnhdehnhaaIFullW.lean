/-
  The walk of InboxFull. (Written by gen_ifull.py.)
-/
import Derived.Test.YtpmkpjnhdehnhaaILives
import Derived.Test.YtpmkpjnhdehnhaaIPks
import Derived.Test.YtpmkpjnhdehnhaaIRst
namespace Go.Proofs.Ytpmkpjnhdehnhaa
open Go.RowKit

set_option maxRecDepth 100000 in
set_option maxHeartbeats 8000000 in
theorem full_law (room n : Int) (w : World) : Calls Try.prog 5 #[.int .i64 room, .int .i64 n] w fun e w' => e = .returned (.bool true) ∧ Below w.heap.size w w' := by
  have LV := lives_any w
  obtain ⟨k1, k2⟩ := irst_eq room (m := 6) (by decide) (by decide)
  obtain ⟨j1, j2⟩ := irst_eq n (m := 20) (by decide) (by decide)
  replace k2 : wrap64 ((IntKind.u64.wrap room).tmod 6) = ((irst room 6 : Nat) : Int) := k2
  replace j2 : wrap64 ((IntKind.u64.wrap n).tmod 20) = ((irst n 20 : Nat) : Int) := j2
  generalize irst room 6 = rk at *
  generalize irst n 20 = N at *
  obtain ⟨r, hr⟩ : ∃ r : Nat, 1 + rk = r := ⟨_, rfl⟩
  have k3 : (1 : Int) + (rk : Int) = (r : Int) := by omega
  have r1 : 1 ≤ r := by omega
  have r6 : r ≤ 6 := by omega
  have CN : Hid (∀ v, Below w.heap.size w v → Calls Try.prog 11 #[.int .i64 (r : Int)] v fun e v' => ∃ b, e = .returned (.pointer (some ⟨b, 0, none⟩)) ∧ Ix w v' b (prS r 1 0) NoB) := show _ from fun v hb => by
    refine (ix_new (w0 := w) (O := NoB) hb (fun _ h => h.elim) (r : Int)).mono ?_
    rintro e v' ⟨b, rfl, x, _⟩
    rw [show roomN (r : Int) = r by unfold roomN; omega] at x
    exact ⟨b, rfl, x⟩
  clear hr k1
  go_enter Try.func5, Try.ntmps5
  go_upto_region 5 with (go_at_call 10; with_reducible refine LV.mono ?_; rintro e v1 ⟨rfl, hb1⟩)
  have C1 := CN.out v1 hb1
  clear LV hb1 CN
  go_wp2_with (go_at_call 11; with_reducible refine C1.mono ?_; rintro e v2 ⟨b, rfl, X0⟩)
  go_loopw [6] (fun i wr => ∃ k : Nat, k ≤ N ∧ i = .int .i64 k ∧ Ix w wr b (prS r 1 k) NoB) (fun i _ => N - (intOf i).toNat)
  case atStart => exact ⟨0, Nat.zero_le _, rfl, X0⟩
  case round =>
    clear X0 C1
    obtain ⟨k, hk, rfl, X⟩ := hrel
    by_cases hlt : k < N
    · obtain ⟨e1, e2⟩ := prS_come (r := r) (s := 1) (i := k) (by decide) (by omega)
      have C := ix_come X (pkj 1 k)
      rw [e1, e2] at C
      have C' : Calls Try.prog 17 #[.pointer (some ⟨b, 0, none⟩), .agg #[.int .i64 1, .int .i64 0, .int .i64 (k : Int), .string ⟨#[]⟩]] wr fun e w' => e = .returned (.int .i64 0) ∧ Ix w w' b (prS r 1 (k + 1)) NoB := C.mono fun _ _ h => ⟨h.1, h.2.1⟩
      clear C e1 e2 X
      go_wp2_with (go_at_call 17; with_reducible refine C'.mono ?_; rintro e v3 ⟨rfl, X⟩)
      go_roundw
      case rel => exact ⟨k + 1, by omega, by go_num, X⟩
      case measure => simp [intOf]; omega
    · obtain rfl : k = N := by omega
      rw [prS_fl] at X
      clear hk hlt
      have XX : Hid (Ix w wr b (fl r 1 k 0 0) NoB) := X
      clear X
      go_wp2_with fail
      go_loopw [7] (fun i wr => ∃ j : Nat, j ≤ k + 2 ∧ i = .int .i64 j ∧ Ix w wr b (fl r 1 k 0 (min j (min k r))) NoB) (fun i _ => k + 2 - (intOf i).toNat)
      case atStart => exact ⟨0, Nat.zero_le _, rfl, by rw [Nat.zero_min]; exact XX.out⟩
      case round =>
        clear XX
        obtain ⟨j, hj, rfl, X⟩ := hrel
        by_cases hlt : j < k + 2
        · obtain ⟨t1, t2⟩ := fl_tell (r := r) (s := 1) (N := k) (a := 0) (b := min j (min k r)) (Nat.zero_le _) (by omega)
          have C := ix_tell X
          obtain ⟨TB, hTB⟩ : ∃ TB, TB = decide (j < min k r) := ⟨_, rfl⟩
          have C' : Calls Try.prog 19 #[.pointer (some ⟨b, 0, none⟩)] _ fun e w' => e = .returned (.bool TB) ∧ Ix w w' b (fl r 1 k 0 (min (j + 1) (min k r))) NoB := C.mono fun _ _ h => by
            obtain ⟨h1, h2, _⟩ := h
            by_cases c : j < min k r
            · obtain ⟨q1, q2⟩ := t1 (by omega)
              rw [q1] at h1
              rw [q2] at h2
              rw [hTB, decide_eq_true c]
              rw [show min (j + 1) (min k r) = min j (min k r) + 1 by omega]
              exact ⟨h1, h2⟩
            · obtain ⟨q1, q2⟩ := t2 (by omega)
              rw [q1] at h1
              rw [q2] at h2
              rw [hTB, decide_eq_false c]
              rw [show min (j + 1) (min k r) = min j (min k r) by omega]
              exact ⟨h1, h2⟩
          clear C t1 t2 X
          have key : (r < k ∧ (j < r ∧ TB = true ∨ ¬ j < r ∧ TB = false)) ∨ (¬ r < k ∧ (j < k ∧ TB = true ∨ ¬ j < k ∧ TB = false)) := by
            by_cases h1 : r < k
            · refine Or.inl ⟨h1, ?_⟩
              by_cases c : j < r
              · exact Or.inl ⟨c, by rw [hTB]; simp; omega⟩
              · exact Or.inr ⟨c, by rw [hTB]; simp; omega⟩
            · refine Or.inr ⟨h1, ?_⟩
              by_cases c : j < k
              · exact Or.inl ⟨c, by rw [hTB]; simp; omega⟩
              · exact Or.inr ⟨c, by rw [hTB]; simp; omega⟩
          clear hTB
          rcases key with ⟨h1, ⟨h2, rfl⟩ | ⟨h2, rfl⟩⟩ | ⟨h1, ⟨h2, rfl⟩ | ⟨h2, rfl⟩⟩
          all_goals
            go_wp2_with (go_at_call 19; with_reducible refine C'.mono ?_; rintro e v4 ⟨rfl, X⟩)
          all_goals
            go_roundw
            case rel => exact ⟨j + 1, by omega, by go_num, X⟩
            case measure => simp [intOf]; omega
        · rw [show min j (min k r) = min k r by omega] at X
          have XX : Hid (Ix w wr b (fl r 1 k 0 (min k r)) NoB) := X
          have hlt2 : ¬ ((j : Int) < (k : Int) + 2) := by omega
          clear X hj hlt
          go_wp2_with fail
          go_loopw [8] (fun i wr => ∃ j : Nat, j ≤ k ∧ i = .int .i64 j ∧ Ix w wr b (fl r 1 k j (min k (j + r))) NoB) (fun i _ => k - (intOf i).toNat)
          case atStart => exact ⟨0, Nat.zero_le _, rfl, by rw [Nat.zero_add]; exact XX.out⟩
          case round =>
            clear XX
            obtain ⟨j, hj, rfl, X⟩ := hrel
            by_cases hlt : j < k
            · obtain ⟨p1, p2, p3⟩ := fl_recv (r := r) (s := 1) (N := k) (a := j) (b := min k (j + r)) (by omega)
              obtain ⟨t1, t2⟩ := fl_tell (r := r) (s := 1) (N := k) (a := j + 1) (b := min k (j + r)) (by omega) (by omega)
              have C := ix_recv X
              rw [p1, p2, p3] at C
              obtain ⟨TB, hTB⟩ : ∃ TB, TB = decide (j + r < k) := ⟨_, rfl⟩
              have CR : Calls Try.prog 21 #[.pointer (some ⟨b, 0, none⟩)] _ fun e w' => e = .returned (.tuple #[.agg #[.int .i64 1, .int .i64 0, .int .i64 (j : Int), .string ⟨#[]⟩], .int .i64 0]) ∧ Ix w w' b (fl r 1 k (j + 1) (min k (j + r))) NoB := C.mono fun _ _ h => ⟨h.1, h.2.1⟩
              have CT : Hid (∀ v, Ix w v b (fl r 1 k (j + 1) (min k (j + r))) NoB → Calls Try.prog 19 #[.pointer (some ⟨b, 0, none⟩)] v fun e w' => e = .returned (.bool TB) ∧ Ix w w' b (fl r 1 k (j + 1) (min k (j + 1 + r))) NoB) := show _ from fun v hv => (ix_tell hv).mono fun _ _ h => by
                obtain ⟨h1, h2, _⟩ := h
                by_cases c : j + r < k
                · obtain ⟨q1, q2⟩ := t1 (by omega)
                  rw [q1] at h1
                  rw [q2] at h2
                  rw [hTB, decide_eq_true c]
                  rw [show min k (j + 1 + r) = min k (j + r) + 1 by omega]
                  exact ⟨h1, h2⟩
                · obtain ⟨q1, q2⟩ := t2 (by omega)
                  rw [q1] at h1
                  rw [q2] at h2
                  rw [hTB, decide_eq_false c]
                  rw [show min k (j + 1 + r) = min k (j + r) by omega]
                  exact ⟨h1, h2⟩
              obtain ⟨b1, hb1⟩ : ∃ b1, b1 = min k (j + 1 + r) := ⟨_, rfl⟩
              have hb2 : j + 1 ≤ b1 ∧ b1 ≤ k := by omega
              have HB1 : Hid (b1 = min k (j + 1 + r)) := hb1
              rw [← hb1] at CT
              have CL : Hid (∀ v, Ix w v b (fl r 1 k (j + 1) b1) NoB → Calls Try.prog 23 #[.pointer (some ⟨b, 0, none⟩)] v fun e w' => e = .returned (.int .i64 ((b1 - (j + 1) : Nat) : Int)) ∧ Ix w w' b (fl r 1 k (j + 1) b1) NoB) := show _ from fun v hv => (ix_len hv).mono fun _ _ h => ⟨by rw [h.1]; show Ending.returned (.int .i64 ((pks 1 (j + 1) b1).length : Int)) = _; rw [pks_len], h.2.1⟩
              have CW : Hid (∀ v, Ix w v b (fl r 1 k (j + 1) b1) NoB → Calls Try.prog 25 #[.pointer (some ⟨b, 0, none⟩)] v fun e w' => e = .returned (.int .i64 ((k - b1 : Nat) : Int)) ∧ Ix w w' b (fl r 1 k (j + 1) b1) NoB) := show _ from fun v hv => (ix_waits hv).mono fun _ _ h => ⟨by rw [h.1]; show Ending.returned (.int .i64 ((pks 1 b1 k).length : Int)) = _; rw [pks_len], h.2.1⟩
              have key : (j + r < k ∧ TB = true) ∨ (¬ j + r < k ∧ TB = false) := by
                by_cases c : j + r < k
                · exact Or.inl ⟨c, by rw [hTB]; simp; omega⟩
                · exact Or.inr ⟨c, by rw [hTB]; simp; omega⟩
              obtain ⟨x1, hx1⟩ : ∃ x1 : Nat, x1 = b1 - (j + 1) := ⟨_, rfl⟩
              obtain ⟨x2, hx2⟩ : ∃ x2 : Nat, x2 = k - b1 := ⟨_, rfl⟩
              rw [← hx1] at CL
              rw [← hx2] at CW
              have sm : (x1 : Int) + (x2 : Int) = (k : Int) - 1 - (j : Int) := by omega
              have SM : Hid ((x1 : Int) + (x2 : Int) = (k : Int) - 1 - (j : Int)) := sm
              have sx : x1 < 20 ∧ x2 < 20 := by omega
              obtain ⟨sx1, sx2⟩ := sx
              clear hTB C p1 p2 p3 t1 t2 X hb1 hb2 hx1 hx2 sm
              go_upto_region 20 with (go_at_call 21; with_reducible refine CR.mono ?_; rintro e v4 ⟨rfl, X⟩)
              have HX : Hid (Ix w (v4.alloc (.cells #[.int .i64 1, .int .i64 0, .int .i64 (j : Int), .string ⟨#[]⟩] 33)) b (fl r 1 k (j + 1) (min k (j + r))) NoB) := X.alloc' _
              have N0 := Bk.new v4 #[.int .i64 1, .int .i64 0, .int .i64 (j : Int), .string ⟨#[]⟩] 33
              clear X CR
              generalize v4.alloc (.cells #[.int .i64 1, .int .i64 0, .int .i64 (j : Int), .string ⟨#[]⟩] 33) = v5 at *
              generalize v4.heap.size = d at *
              have y2 := N0.cell 2
              simp only [List.getElem?_toArray, List.getElem?_cons_zero, List.getElem?_cons_succ] at y2
              have CT1 := CT.out v5 HX.out
              clear CT HX N0
              rcases key with ⟨h1, rfl⟩ | ⟨h1, rfl⟩
              all_goals
                go_wp2_with fail
                go_at_call 19
                with_reducible refine CT1.mono ?_
                rintro e v6 ⟨rfl, X6⟩
                have CL1 := CL.out v6 X6
                go_wp2_with fail
                go_at_call 23
                with_reducible refine CL1.mono ?_
                rintro e v7 ⟨rfl, X7⟩
                have CW1 := CW.out v7 X7
                clear CL CL1 CT1 X6
                go_wp2_with fail
                go_at_call 25
                with_reducible refine CW1.mono ?_
                rintro e v8 ⟨rfl, X8⟩
                have X9 : Hid (Ix w v8 b (fl r 1 k (j + 1) (min k (j + 1 + r))) NoB) := show _ from by rw [← HB1.out]; exact X8
                have sm2 := SM.out
                clear CW1 X7 X8 CW y2
                have nt : ((x1 : Int) + (x2 : Int) != (k : Int) - 1 - (j : Int)) = false := by rw [sm2]; simp
                go_wp2_with fail
                go_roundw
                case rel => exact ⟨j + 1, by omega, by go_num, X9.out⟩
                case measure => simp [intOf]; omega
            · obtain rfl : j = k := by omega
              rw [show min j (j + r) = j by omega] at X
              have C := ix_recv X
              rw [fl_done.1, fl_empty, fl_done.2] at C
              have CR : Calls Try.prog 21 #[.pointer (some ⟨b, 0, none⟩)] _ fun e w' => e = .returned (.tuple #[.agg #[.int .i64 0, .int .i64 0, .int .i64 0, .string ⟨#[]⟩], .int .i64 8]) ∧ Ix w w' b (fl r 1 j j j) NoB := C.mono fun _ _ h => ⟨h.1, h.2.1⟩
              have CY : Hid (∀ v, Ix w v b (fl r 1 j j j) NoB → Calls Try.prog 27 #[.pointer (some ⟨b, 0, none⟩)] v fun e w' => e = .returned (.bool false) ∧ Ix w w' b (fl r 1 j j j) NoB) := show _ from fun v hv => (ix_ready hv).mono fun _ _ h => ⟨by rw [h.1, fl_rdy, if_neg (Nat.lt_irrefl j)]; rfl, h.2.1⟩
              clear C X hj hlt
              go_upto_region 23 with (go_at_call 21; with_reducible refine CR.mono ?_; rintro e v4 ⟨rfl, X⟩)
              have X5 := X.alloc' (.cells #[.int .i64 0, .int .i64 0, .int .i64 0, .string ⟨#[]⟩] 33)
              have CY1 := CY.out _ X5
              clear X X5 CR CY
              generalize v4.alloc (.cells #[.int .i64 0, .int .i64 0, .int .i64 0, .string ⟨#[]⟩] 33) = v5 at *
              go_wp2_with (go_at_call 27; with_reducible refine CY1.mono ?_; rintro e v6 ⟨rfl, X6⟩)
              go_ret
              exact ⟨rfl, X6.bl⟩
end Go.Proofs.Ytpmkpjnhdehnhaa
