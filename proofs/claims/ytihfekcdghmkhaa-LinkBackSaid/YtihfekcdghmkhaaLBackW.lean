/-
  The walk of LinkBack.
-/
import Derived.Test.YtihfekcdghmkhaaLBackP
import Derived.Test.YtihfekcdghmkhaaLLives
namespace Go.Proofs.Ytihfekcdghmkhaa
open Go.RowKit
open RC (Cl cc cv zc cc_len cc_at)

theorem vi_app (l : List Int) (x : Int) : vi l ++ [.int .i64 x] = vi (l ++ [x]) := by simp [vi]
set_option maxRecDepth 100000 in
set_option maxHeartbeats 16000000 in
theorem back_law (la : Int) (R : List Int) (a : Option Addr) (c : Nat) (w : World) (hr : Rd w a (vi R)) (_hm : R.length ≤ maxLen) :
    Calls Try.prog 9 #[.int .i64 la, .slice a R.length c] w fun e w' => e = .returned (.bool true) ∧ Below w.heap.size w w' := by
  obtain ⟨i0, ki, hz0, hz1, hz2⟩ := info_parts Try.info3
  obtain ⟨k1, -⟩ := rst_in la (m := 4) (by decide) (by decide)
  have k2 : wrap64 ((IntKind.u64.wrap la).tmod 4) = ((rst la 4 : Nat) : Int) := rst_eq la (m := 4) (by decide) (by decide)
  generalize rst la 4 = pk at *
  obtain ⟨N, hN⟩ : ∃ N : Nat, 1 + pk = N := ⟨_, rfl⟩
  have k3 : (1 : Int) + (pk : Int) = (N : Int) := by omega
  have hN1 : 1 ≤ N := by omega
  have hN4 : N ≤ 4 := by omega
  clear hN k1
  have q3 : IntKind.u64.wrap (N : Int) = (N : Int) := by rw [IntKind.wrap_u64]; omega
  have q4 : ¬ N = 0 := by omega
  have NC := fun v => link_new (N : Int) 64 64 v
  have LI : Hid (BackInv N (newS N 64 64) []) := BackInv.new hN1 hN4
  generalize newS N 64 64 = S0 at *
  have LV := lives_any w
  obtain ⟨n, hn⟩ : ∃ n, R.length = n := ⟨_, rfl⟩
  have HN : Hid (R.length = n) := hn
  rw [hn]
  have HX : Hid (∀ (j : Nat) (wr : World), j < n → Below w.heap.size w wr → ∃ g o x, a = some ⟨g, o, none⟩ ∧ g < wr.heap.size ∧ wr.cell? ⟨g, o + j, none⟩ = some (.int .i64 x)) := show _ from fun j wr hj hb => by
    obtain ⟨g, o, e, hg, hc⟩ := (hr.below hb) j _ (vi_at (by omega))
    exact ⟨g, o, _, e, hg, hc⟩
  clear hn hr
  go_enter Try.func9, Try.ntmps9
  go_wp2_with fail
  go_at_call 10
  with_reducible refine LV.mono ?_
  rintro e w1 ⟨rfl, b1⟩
  have B1 : Hid (Below w.heap.size w w1) := b1
  clear LV b1
  go_upto_region 4 with fail
  try rw [k2]
  try rw [k3]
  clear k2 k3
  go_wp2_with fail
  go_at_call 11
  with_reducible refine (NC _).mono ?_
  rintro e w3 ⟨b, F0, rfl, l0, f0, b3⟩
  have L3 : Hid (St w w3 b S0 F0) := show St w w3 b S0 F0 from ⟨l0, fun g hg => Nat.le_trans B1.out.size (f0 g hg), B1.out.trans (b3.mono B1.out.size)⟩
  clear NC l0 f0 b3 B1
  go_wp2_with fail
  go_loopw [6, 7] (fun tv x wr => ∃ (j : Nat) (S : LS) (F : Nat → Prop) (tk : List Int) (V : Value), j ≤ n ∧ j ≤ 40 ∧ x = .int .i64 j ∧ V = tv ∧ tk.length = j ∧ (∀ k ∈ tk, ∃ q : Nat, k = (q : Int) ∧ q < N) ∧ BackInv N S tk ∧ St w wr b S F ∧ Row 3 1 w wr F V j (vi tk)) (fun _ x _ => 40 - (RowKit.intOf x).toNat)
  case atStart => exact ⟨0, S0, F0, [], _, Nat.zero_le _, Nat.zero_le _, rfl, rfl, rfl, fun k h => absurd h List.not_mem_nil, LI.out, L3.out, Row.nil _ _ _ _ _⟩
  case round =>
    obtain ⟨j, S, F, tk, tv, hjn, hj2, rfl, rfl, tl, tin, li, l, rw0⟩ := hrel
    clear LI L3
    have LI : Hid (BackInv N S tk) := li
    have L : Hid (St w wr b S F) := l
    have TI : Hid (∀ k ∈ tk, ∃ q : Nat, k = (q : Int) ∧ q < N) := tin
    have TL : Hid (tk.length = j) := tl
    have RW : Hid (Row 3 1 w wr F tv j (vi tk)) := rw0
    clear li l S0 tl tin rw0
    by_cases hex : j < n ∧ j < 40
    · obtain ⟨h1, h2⟩ := hex
      obtain ⟨g, o, x, rfl, hg, hc⟩ := HX.out j wr h1 L.out.below
      have e1 : (j : Int) < (n : Int) := by omega
      have e2 : (j : Int) < 40 := by omega
      have e3 : (0 : Int) ≤ (j : Int) := by omega
      obtain ⟨p1, -⟩ := rst_in x (m := N) (by omega) (by omega)
      have p2 := rst_eq x (m := N) (by omega) (by omega)
      generalize rst x N = k at *
      obtain ⟨S1, S2, S3, x1, x2, x3, inv, x4⟩ := LI.out.round p1 (by rw [TL.out]; omega)
      have INV : Hid (BackInv N S3 (tk ++ [(k : Int)])) := inv
      go_upto_region 10 with fail
      try rw [p2]
      clear p2 hc
      have C1 := link_send L.out.lk (k : Int) 0
      rw [x1] at C1
      go_wp2_with fail
      go_at_call 30
      refine C1.mono ?_
      rintro e w5 ⟨F5, rfl, l5, g5⟩
      have L5 : Hid (St w w5 b S1 F5) := L.out.step l5 g5
      have R5 : Hid (Row 3 1 w w5 F5 tv j (vi tk)) := RW.out.gr g5
      clear C1 l5 g5 L RW LI
      have C2 := link_carry L5.out.lk
      rw [x2] at C2
      go_wp2_with fail
      go_at_call 26
      refine C2.mono ?_
      rintro e w6 ⟨F6, rfl, l6, g6⟩
      have L6 : Hid (St w w6 b S2 F6) := L5.out.step l6 g6
      have R6 : Hid (Row 3 1 w w6 F6 tv j (vi tk)) := R5.out.gr g6
      clear C2 l6 g6 L5 R5
      have C3 := link_taken L6.out.lk (k : Int)
      rw [x3] at C3
      go_wp2_with fail
      go_at_call 27
      refine C3.mono ?_
      rintro e w7 ⟨F7, rfl, l7, g7⟩
      have L7 : Hid (St w w7 b S3 F7) := L6.out.step l7 g7
      have R7 : Hid (Row 3 1 w w7 F7 tv j (vi tk)) := R6.out.gr g7
      clear C3 l7 g7 L6 R6 x1 x2 x3
      have C4 := link_credits L7.out.lk (k : Int)
      have C5 := fun V F (h : Lk V b S3 F) => link_coming h (k : Int)
      obtain ⟨y1, hy1⟩ : ∃ y, hasN S3.cr (k : Int) = y := ⟨_, rfl⟩
      obtain ⟨y2, hy2⟩ : ∃ y, (com S3.bk (k : Int) : Int) = y := ⟨_, rfl⟩
      rw [hy1] at C4 x4
      simp only [hy2] at C5
      rw [hy2] at x4
      clear hy1 hy2
      go_wp2_with fail
      go_at_call 16
      refine C4.mono ?_
      rintro e w8 ⟨rfl, b8⟩
      have L8 : Hid (St w w8 b S3 F7) := L7.out.next b8
      have R8 : Hid (Row 3 1 w w8 F7 tv j (vi tk)) := R7.out.next b8
      clear C4 b8 L7 R7
      have O5 := C5 w8 F7 L8.out.lk
      clear C5
      go_wp2_with fail
      go_at_call 21
      refine O5.mono ?_
      rintro e w9 ⟨rfl, b9⟩
      have L9 : Hid (St w w9 b S3 F7) := L8.out.next b9
      have R9 : Hid (Row 3 1 w w9 F7 tv j (vi tk)) := R8.out.next b9
      clear O5 b9 L8 R8
      have hjj : j ≤ 1000000 := by omega
      have hsz := L9.out.size
      have rown := R9.out.1
      have HK : Hid (vi tk ++ [.int .i64 (k : Int)] = vi (tk ++ [(k : Int)])) := vi_app _ _
      generalize hvk : vi tk = vk at *
      go_wp2_with (at_builtin; go_loud (refine wpList_app_at rfl (.tmp 60) (.tmp 62) 27 3 i0 (.int .i64 0) 1 8 rfl Try.underlying27 ki hz0 hz1 hz2 rfl (by decide) (by decide) w.heap.size w9 tv j vk [.int .i64 (k : Int)] rfl rown rfl rfl (by intro u hu; simp at hu; subst hu; rfl) hjj hsz ?_; intro v10 w10 o10 g10 p10))
      obtain ⟨r10, l10⟩ := R9.out.snoc L9.out o10 g10 p10
      have R10 : Hid (Row 3 1 w w10 F7 v10 (j + 1) (vk ++ [.int .i64 (k : Int)])) := r10
      have L10 : Hid (St w w10 b S3 F7) := l10
      clear r10 l10 o10 g10 p10 L9 R9 rown
      have TI2 : Hid (∀ x ∈ tk ++ [(k : Int)], ∃ q : Nat, x = (q : Int) ∧ q < N) := show _ from fun x hx => by
        rcases List.mem_append.1 hx with h | h
        · exact TI.out x h
        · simp at h
          exact ⟨k, h, p1⟩
      have TL2 : Hid ((tk ++ [(k : Int)]).length = j + 1) := show _ from by rw [List.length_append, TL.out]; rfl
      go_wp2
      exact ⟨⟨j + 1, S3, F7, tk ++ [(k : Int)], v10, by omega, by omega, by go_num, rfl, TL2.out, TI2.out, INV.out, L10.out, HK.out ▸ R10.out⟩, by simp [RowKit.intOf]; omega⟩
    have ways : ¬ (j : Int) < (n : Int) ∨ ((j : Int) < (n : Int) ∧ ¬ (j : Int) < 40) := by omega
    clear hex HX
    obtain ⟨ta, tcap, e0, -, -, rdt⟩ := OwnK.rd RW.out.1 (by decide)
    have E0 : Hid (tv = .slice ta j tcap) := e0
    clear rdt
    subst e0
    have LI0 : Hid (BackInv N S (tk.drop 0)) := LI.out
    clear LI
    have RT : Hid (∀ (V : World) (F : Nat → Prop) (i : Nat), Row 3 1 w V F (.slice ta j tcap) j (vi tk) → i < j → ∃ g o k, ta = some ⟨g, o, none⟩ ∧ g < V.heap.size ∧ k < N ∧ tk.drop i = (k : Int) :: tk.drop (i + 1) ∧ V.cell? ⟨g, o + i, none⟩ = some (.int .i64 (k : Int))) := show _ from fun V F i hrow hi => by
      obtain ⟨ta', tcap', e1, -, -, rd1⟩ := OwnK.rd hrow.1 (by decide)
      simp only [Value.slice.injEq] at e1
      obtain ⟨rfl, -, rfl⟩ := e1
      have hi2 : i < tk.length := by rw [TL.out]; exact hi
      obtain ⟨q, hq, hqN⟩ := TI.out tk[i] (List.getElem_mem hi2)
      obtain ⟨g, o, e2, hg, hc⟩ := rd1 i _ (vi_at hi2)
      refine ⟨g, o, q, e2, hg, hqN, by rw [List.drop_eq_getElem_cons hi2, hq], ?_⟩
      rw [hc, List.getD_eq_getElem?_getD, List.getElem?_eq_getElem hi2]
      simp only [Option.getD_some, hq]
    have TD : Hid (tk.drop j = []) := show _ from by rw [← TL.out]; exact List.drop_length
    clear TI TL E0
    generalize vi tk = vk at *
    rcases ways with e1 | ⟨e1, e2⟩
    all_goals
      go_wp2_with fail
      go_loopw [9] (fun x wr => ∃ (i : Nat) (S : LS) (F : Nat → Prop), i ≤ j ∧ x = .int .i64 i ∧ BackInv N S (tk.drop i) ∧ St w wr b S F ∧ Row 3 1 w wr F (.slice ta j tcap) j vk) (fun x _ => j - (RowKit.intOf x).toNat)
      case atStart => exact ⟨0, S, F, Nat.zero_le _, rfl, LI0.out, L.out, RW.out⟩
      case round =>
        obtain ⟨i, S', F', hi, rfl, lo, l, rw1⟩ := hrel
        clear LI0 L RW
        have LO : Hid (BackInv N S' (tk.drop i)) := lo
        have L : Hid (St w wr b S' F') := l
        have RW : Hid (Row 3 1 w wr F' (.slice ta j tcap) j vk) := rw1
        clear lo l rw1
        by_cases hlt : i < j
        · have e3 : (i : Int) < (j : Int) := by omega
          have e4 : (0 : Int) ≤ (i : Int) := by omega
          obtain ⟨g, o, k, rfl, hg, hkN, hdrop, hc⟩ := RT.out wr F' i RW.out hlt
          have hb0 := LO.out
          rw [hdrop] at hb0
          obtain ⟨S1, x, x1, x2, x3, x4, inv, x5⟩ := hb0.credit hkN
          have INV : Hid (BackInv N S1 (tk.drop (i + 1))) := inv
          have C1 := link_credits L.out.lk (k : Int)
          rw [x1] at C1
          have HD : Hid (tk.drop i = (k : Int) :: tk.drop (i + 1)) := hdrop
          clear hdrop hb0 inv LO
          go_wp2_with fail
          go_at_call 16
          refine C1.mono ?_
          rintro e w5 ⟨rfl, b5⟩
          have L5 : Hid (St w w5 b S' F') := L.out.next b5
          have R5 : Hid (Row 3 1 w w5 F' (.slice (some ⟨g, o, none⟩) j tcap) j vk) := RW.out.next b5
          clear C1 b5 L RW hc
          have C2 := link_credit L5.out.lk
          rw [x4] at C2
          go_wp2_with fail
          go_at_call 28
          refine C2.mono ?_
          rintro e w6 ⟨F6, rfl, l6, g6⟩
          have L6 : Hid (St w w6 b S1 F6) := L5.out.step l6 g6
          have R6 : Hid (Row 3 1 w w6 F6 (.slice (some ⟨g, o, none⟩) j tcap) j vk) := R5.out.gr g6
          clear C2 l6 g6 L5 R5 x4
          obtain ⟨g', o', k', eg, hg', -, hd', hc'⟩ := RT.out w6 F6 i R6.out hlt
          simp only [Option.some.injEq, Addr.mk.injEq, and_true] at eg
          obtain ⟨rfl, rfl⟩ := eg
          have C3 := link_credits L6.out.lk (k : Int)
          rw [x5] at C3
          have hkk : k' = k := by
            rw [HD.out] at hd'
            injection hd' with h1 _
            omega
          subst hkk
          clear hd' HD x1
          go_wp2_with fail
          go_at_call 16
          refine C3.mono ?_
          rintro e w7 ⟨rfl, b7⟩
          have L7 : Hid (St w w7 b S1 F6) := L6.out.next b7
          have R7 : Hid (Row 3 1 w w7 F6 (.slice (some ⟨g, o, none⟩) j tcap) j vk) := R6.out.next b7
          clear C3 b7 L6 R6 hc' x5
          go_wp2
          exact ⟨⟨i + 1, S1, F6, by omega, by go_num, INV.out, L7.out, R7.out⟩, by simp [RowKit.intOf]; omega⟩
        have e3 : ¬ (i : Int) < (j : Int) := by omega
        obtain rfl : i = j := by omega
        have hb0 := LO.out
        rw [TD.out] at hb0
        obtain ⟨s1, s2⟩ := hb0.done
        have C1 := link_credit L.out.lk
        rw [s1] at C1
        have C2 : Hid (∀ V F, Lk V b S' F → Calls Try.prog 29 #[.pointer (some ⟨b, 0, none⟩)] V fun e w' => e = .returned (.bool true) ∧ Below V.heap.size V w') := show _ from fun V F h => s2 ▸ link_idle h
        clear s1 s2 LO RT RW hb0
        go_wp2_with fail
        go_at_call 28
        refine C1.mono ?_
        rintro e w5 ⟨F5, rfl, l5, g5⟩
        have L5 : Hid (St w w5 b S' F5) := L.out.step l5 g5
        clear C1 l5 g5 L
        have O2 := C2.out w5 F5 L5.out.lk
        go_wp2_with fail
        go_at_call 29
        refine O2.mono ?_
        rintro e w6 ⟨rfl, b6⟩
        have L6 : Hid (St w w6 b S' F5) := L5.out.next b6
        clear O2 b6 L5 C2
        go_wp2
        go_ret
        exact ⟨rfl, L6.out.below⟩
end Go.Proofs.Ytihfekcdghmkhaa
