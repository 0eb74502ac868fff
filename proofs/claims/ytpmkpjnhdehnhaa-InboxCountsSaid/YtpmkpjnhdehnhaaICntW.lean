/-
  The walk of InboxCounts. (Written by gen_icnt.py.)
-/
import Derived.Test.YtpmkpjnhdehnhaaIOpn
import Derived.Deep.CutBlock
namespace Go.Proofs.Ytpmkpjnhdehnhaa
open Go.RowKit

/-- What came is what waits, is in it, and was received. -/
structure Cnt (r cm gt : Nat) (S : IS) : Prop where
  n : S.n = r
  s : cm = S.W.length + S.L.length + gt
theorem come_cnt {r cm gt : Nat} {S : IS} (h : Cnt r cm gt S) (p : Pk) : (comeE S p = 0 ∧ Cnt r (cm + 1) gt (comeS S p)) ∨ (comeE S p ≠ 0 ∧ Cnt r cm gt (comeS S p)) := by
  unfold comeE comeS
  by_cases hr : inR p
  · rw [if_pos hr, if_pos hr]
    cases has S.W p
    · exact Or.inl ⟨rfl, ⟨h.n, by have := h.s; simp; omega⟩⟩
    · exact Or.inr ⟨by simp, h⟩
  · rw [if_neg hr, if_neg hr]
    exact Or.inr ⟨by decide, h⟩
theorem tell_cnt {r cm gt : Nat} {S : IS} (ok : IOk S) (h : Cnt r cm gt S) : Cnt r cm gt (tellS S) := by
  rcases tell_cases S with ⟨_, ⟨_, e, _⟩ | ⟨p, hp, e, _⟩⟩ | ⟨_, e, _⟩
  · rw [e]; exact h
  · rw [e]
    have := len_strike ok.ap (pick_some hp).1
    have hs := h.s
    exact ⟨h.n, by simp [told]; omega⟩
  · rw [e]; exact h
theorem recv_cnt {r cm gt : Nat} {S : IS} (h : Cnt r cm gt S) : (recvE S = 0 ∧ Cnt r cm (gt + 1) (recvS S)) ∨ (recvE S ≠ 0 ∧ Cnt r cm gt (recvS S)) := by
  unfold recvE recvS
  have hs := h.s
  cases hL : S.L with
  | nil =>
    rw [if_pos rfl]
    refine Or.inr ⟨by decide, ⟨h.n, ?_⟩⟩
    rw [hL] at hs
    exact hs
  | cons x l =>
    rw [if_neg (by simp)]
    refine Or.inl ⟨rfl, ⟨h.n, ?_⟩⟩
    rw [hL] at hs
    simp at hs ⊢
    omega

set_option maxRecDepth 100000 in
set_option maxHeartbeats 16000000 in
theorem counts_law (room : Int) (l : List IOp) (a : Option Addr) (cap : Nat) (w : World) (hr : Rd w a (iops l)) (hc1 : l.length ≤ cap) (hc2 : cap ≤ maxLen) (hc3 : a = none → cap = 0) :
    Calls Try.prog 9 #[.int .i64 room, .slice a l.length cap] w fun e w' => e = .returned (.bool true) ∧ Below w.heap.size w w' := by
  have LV := lives_any w
  obtain ⟨k1, k2⟩ := irst_eq room (m := 8) (by decide) (by decide)
  replace k2 : wrap64 ((IntKind.u64.wrap room).tmod 8) = ((irst room 8 : Nat) : Int) := k2
  generalize irst room 8 = rk at *
  obtain ⟨r, hrr⟩ : ∃ r : Nat, 1 + rk = r := ⟨_, rfl⟩
  have k3 : (1 : Int) + (rk : Int) = (r : Int) := by omega
  have r1 : 1 ≤ r := by omega
  have r8 : r ≤ 8 := by omega
  have HR : Hid (Rd w a (iops l)) := hr
  have ER := fun v => iearly_any a l.length cap v hc1 hc2 hc3
  obtain ⟨n, hn⟩ : ∃ n, min l.length 120 = n := ⟨_, rfl⟩
  rw [hn] at ER
  have hnl : n ≤ l.length := by omega
  have hn120 : n ≤ 120 := by omega
  have CN : Hid (∀ v, Below w.heap.size w v → Calls Try.prog 11 #[.int .i64 (r : Int)] v fun e v' => ∃ b, e = .returned (.pointer (some ⟨b, 0, none⟩)) ∧ Ix w v' b (newI r) NoB) := show _ from fun v hb => by
    refine (ix_new (w0 := w) (O := NoB) hb (fun _ h => h.elim) (r : Int)).mono ?_
    rintro e v' ⟨b, rfl, x, _⟩
    rw [show roomN (r : Int) = r by unfold roomN; omega] at x
    exact ⟨b, rfl, x⟩
  have C0 : Cnt r 0 0 (newI r) := ⟨rfl, rfl⟩
  clear hrr k1 hr hc1 hc2 hc3 hn
  go_enter Try.func9, Try.ntmps9
  go_upto_region 4 with (go_at_call 10; with_reducible refine LV.mono ?_; rintro e v1 ⟨rfl, hb1⟩)
  have C1 := CN.out v1 hb1
  clear LV hb1 CN
  go_wp2_with (first
    | (go_at_call 11; with_reducible refine C1.mono ?_; rintro e v2 ⟨b, rfl, X0⟩)
    | (go_at_call 13; with_reducible refine (ER _).mono ?_; rintro e v3 ⟨rfl, rfl⟩))
  go_loopw [6, 7, 8] (fun c g i wr => ∃ k cm gt : Nat, ∃ S, k ≤ n ∧ c = .int .i64 cm ∧ g = .int .i64 gt ∧ i = .int .i64 k ∧ cm ≤ k ∧ Cnt r cm gt S ∧ Ix w wr b S NoB) (fun _ _ i _ => n - (intOf i).toNat)
  case atStart => exact ⟨0, 0, 0, _, Nat.zero_le _, rfl, rfl, rfl, Nat.le_refl _, C0, X0⟩
  case round =>
    clear X0 C1 C0 ER
    obtain ⟨k, cm, gt, S, hk, rfl, rfl, rfl, hcm, hC, X⟩ := hrel
    by_cases hlt : k < n
    · obtain ⟨x, hx⟩ : ∃ x, l[k]? = some x := ⟨_, List.getElem?_eq_getElem (by omega)⟩
      obtain ⟨ga, oa, ha, hga, c0, c1, c2, c3, c4⟩ := rd_iop HR.out hx
      have KC := fun v => ikind_any x v
      have hk4 := x.k_lt
      obtain ⟨kd, hkd⟩ : ∃ kd, x.k = kd := ⟨_, rfl⟩
      rw [hkd] at KC hk4
      have CC : Hid (∀ v, Ix w v b S NoB → Calls Try.prog 17 #[.pointer (some ⟨b, 0, none⟩), pkv x.p] v fun e v' => e = .returned (.int .i64 (comeE S x.p)) ∧ Ix w v' b (comeS S x.p) NoB) := show _ from fun v hv => (ix_come hv x.p).mono fun _ _ h => ⟨h.1, h.2.1⟩
      have CD : Hid ((comeE S x.p = 0 ∧ Cnt r (cm + 1) gt (comeS S x.p)) ∨ (comeE S x.p ≠ 0 ∧ Cnt r cm gt (comeS S x.p))) := come_cnt hC x.p
      generalize comeE S x.p = ce at *
      generalize comeS S x.p = CS at *
      have HX : Hid (Ix w wr b S NoB) := X
      have HC : Hid (Cnt r cm gt S) := hC
      have e0 : wr.cell? ⟨ga, oa + k * 5, none⟩ = some (.int .i64 x.kd) := (X.bl.cell (p := ⟨ga, oa + k * 5, none⟩) hga).trans c0
      have e1 : wr.cell? ⟨ga, oa + k * 5 + 1, none⟩ = some (.int .i64 x.p.s) := (X.bl.cell (p := ⟨ga, oa + k * 5 + 1, none⟩) hga).trans c1
      have e2 : wr.cell? ⟨ga, oa + k * 5 + 2, none⟩ = some (.int .i64 x.p.d) := (X.bl.cell (p := ⟨ga, oa + k * 5 + 2, none⟩) hga).trans c2
      have e3 : wr.cell? ⟨ga, oa + k * 5 + 3, none⟩ = some (.int .i64 x.p.q) := (X.bl.cell (p := ⟨ga, oa + k * 5 + 3, none⟩) hga).trans c3
      have e4 : wr.cell? ⟨ga, oa + k * 5 + 4, none⟩ = some (.string x.p.x) := (X.bl.cell (p := ⟨ga, oa + k * 5 + 4, none⟩) hga).trans c4
      have hgw : ga < wr.heap.size := Nat.lt_of_lt_of_le hga X.size
      subst ha
      clear X hC c0 c1 c2 c3 c4 hx hkd hk HR
      obtain ⟨ok0, ps, pd, pq, px⟩ := x
      simp only [iov, pkv, pkc] at *
      go_upto_region 11 with fail
      have HX1 : Hid (Ix w (wr.alloc (.cells #[.int .i64 ps, .int .i64 pd, .int .i64 pq, .string px] 33)) b S NoB) := HX.out.alloc' _
      have N1 : Hid (Bk (wr.alloc (.cells #[.int .i64 ps, .int .i64 pd, .int .i64 pq, .string px] 33)) wr.heap.size #[.int .i64 ps, .int .i64 pd, .int .i64 pq, .string px] 33) := Bk.new _ _ _
      have BB : Below wr.heap.size wr (wr.alloc (.cells #[.int .i64 ps, .int .i64 pd, .int .i64 pq, .string px] 33)) := (Below.refl _ _).alloc (Nat.le_refl _) _
      replace e0 := (BB.cell (p := ⟨ga, oa + k * 5, none⟩) hgw).trans e0
      replace e1 := (BB.cell (p := ⟨ga, oa + k * 5 + 1, none⟩) hgw).trans e1
      replace e2 := (BB.cell (p := ⟨ga, oa + k * 5 + 2, none⟩) hgw).trans e2
      replace e3 := (BB.cell (p := ⟨ga, oa + k * 5 + 3, none⟩) hgw).trans e3
      replace e4 := (BB.cell (p := ⟨ga, oa + k * 5 + 4, none⟩) hgw).trans e4
      clear BB HX
      generalize wr.alloc (.cells #[.int .i64 ps, .int .i64 pd, .int .i64 pq, .string px] 33) = v4 at *
      generalize wr.heap.size = d at *
      go_upto_block 2 with (go_at_call 14; with_reducible refine (KC _).mono ?_; rintro e v5 ⟨rfl, hb5⟩)
      have HX2 : Hid (Ix w v5 b S NoB) := (HX1.out.next hb5).1
      have N2 : Hid (Bk v5 d #[.int .i64 ps, .int .i64 pd, .int .i64 pq, .string px] 33) := N1.out.next hb5
      clear hb5 HX1 N1 e0 e1 e2 e3 e4 KC
      go_cut [6, 7] from 40 to 72 (fun c g wc => ∃ cm' gt' : Nat, ∃ S', c = .int .i64 cm' ∧ g = .int .i64 gt' ∧ cm' ≤ k + 1 ∧ Cnt r cm' gt' S' ∧ Ix w wc b S' NoB)
      case first =>
        have hkv : kd = 0 ∨ kd = 3 ∨ kd = 1 ∨ kd = 2 := by omega
        clear hk4
        rcases hkv with rfl | rfl | rfl | rfl
        · have y0 := N2.out.cell 0
          have y1 := N2.out.cell 1
          have y2 := N2.out.cell 2
          have y3 := N2.out.cell 3
          simp only [List.getElem?_toArray, List.getElem?_cons_zero, List.getElem?_cons_succ] at y0 y1 y2 y3
          have C1 := CC.out v5 HX2.out
          clear CC HX2 N2 HC
          rcases CD.out with ⟨rfl, hq⟩ | ⟨hne, hq⟩
          · have HQ : Hid (Cnt r (cm + 1) gt CS) := hq
            clear hq CD
            go_wp2_with (go_at_call 17; with_reducible refine C1.mono ?_; rintro e v6 ⟨rfl, X6⟩)
            go_meet
            exact ⟨cm + 1, gt, CS, by go_num, rfl, by omega, HQ.out, X6⟩
          · have HQ : Hid (Cnt r cm gt CS) := hq
            have ce0 : (ce == 0) = false := by simpa using hne
            clear hq CD hne
            go_wp2_with (go_at_call 17; with_reducible refine C1.mono ?_; rintro e v6 ⟨rfl, X6⟩)
            go_meet
            exact ⟨cm, gt, CS, rfl, rfl, by omega, HQ.out, X6⟩
        · have y0 := N2.out.cell 0
          have y1 := N2.out.cell 1
          have y2 := N2.out.cell 2
          have y3 := N2.out.cell 3
          simp only [List.getElem?_toArray, List.getElem?_cons_zero, List.getElem?_cons_succ] at y0 y1 y2 y3
          have C1 := CC.out v5 HX2.out
          clear CC HX2 N2 HC
          rcases CD.out with ⟨rfl, hq⟩ | ⟨hne, hq⟩
          · have HQ : Hid (Cnt r (cm + 1) gt CS) := hq
            clear hq CD
            go_wp2_with (go_at_call 17; with_reducible refine C1.mono ?_; rintro e v6 ⟨rfl, X6⟩)
            go_meet
            exact ⟨cm + 1, gt, CS, by go_num, rfl, by omega, HQ.out, X6⟩
          · have HQ : Hid (Cnt r cm gt CS) := hq
            have ce0 : (ce == 0) = false := by simpa using hne
            clear hq CD hne
            go_wp2_with (go_at_call 17; with_reducible refine C1.mono ?_; rintro e v6 ⟨rfl, X6⟩)
            go_meet
            exact ⟨cm, gt, CS, rfl, rfl, by omega, HQ.out, X6⟩
        · have ok := HX2.out.ok
          have YC := ix_ready HX2.out
          have RC : Hid (∀ v, Ix w v b S NoB → Calls Try.prog 24 #[.pointer (some ⟨b, 0, none⟩)] v fun e v' => e = .returned (.int .i64 ((S.n : Int) - (S.L.length : Int))) ∧ Ix w v' b S NoB) := show _ from fun v hv => (ix_room hv).mono fun _ _ h => ⟨h.1, h.2.1⟩
          have TC : Hid (∀ v, Ix w v b S NoB → Calls Try.prog 19 #[.pointer (some ⟨b, 0, none⟩)] v fun e v' => e = .returned (.bool (tellB S)) ∧ Ix w v' b (tellS S) NoB) := show _ from fun v hv => (ix_tell hv).mono fun _ _ h => ⟨h.1, h.2.1⟩
          have HQ : Hid (Cnt r cm gt (tellS S)) := tell_cnt ok HC.out
          have tb : tellB S = (decide (S.L.length < S.n) && (rdy S).isSome) := rfl
          generalize tellS S = TS at *
          generalize tellB S = TB at *
          generalize (rdy S).isSome = Y at *
          have rm : (decide (S.L.length < S.n) = true ∧ (0 : Int) < (S.n : Int) - (S.L.length : Int)) ∨ (decide (S.L.length < S.n) = false ∧ ¬ ((0 : Int) < (S.n : Int) - (S.L.length : Int))) := by
            by_cases c : S.L.length < S.n
            · exact Or.inl ⟨decide_eq_true c, by omega⟩
            · exact Or.inr ⟨decide_eq_false c, by omega⟩
          generalize decide (S.L.length < S.n) = RM at *
          generalize (S.n : Int) - (S.L.length : Int) = rmv at *
          clear ok CC CD HX2 N2 HC
          cases Y
          · obtain rfl : TB = false := by rw [tb]; simp
            clear tb rm RC
            go_wp2_with fail
            go_at_call 27
            with_reducible refine YC.mono ?_
            rintro e v6 ⟨rfl, X6, _⟩
            have T1 := TC.out v6 X6
            go_wp2_with (go_at_call 19; with_reducible refine T1.mono ?_; rintro e v7 ⟨rfl, X7⟩)
            go_meet
            exact ⟨cm, gt, TS, rfl, rfl, by omega, HQ.out, X7⟩
          · rcases rm with ⟨rfl, hp⟩ | ⟨rfl, hp⟩
            · obtain rfl : TB = true := by rw [tb]; simp
              clear tb
              go_wp2_with fail
              go_at_call 27
              with_reducible refine YC.mono ?_
              rintro e v6 ⟨rfl, X6, _⟩
              have R1 := RC.out v6 X6
              go_wp2_with fail
              go_at_call 24
              with_reducible refine R1.mono ?_
              rintro e v7 ⟨rfl, X7⟩
              have T1 := TC.out v7 X7
              go_wp2_with (go_at_call 19; with_reducible refine T1.mono ?_; rintro e v8 ⟨rfl, X8⟩)
              go_meet
              exact ⟨cm, gt, TS, rfl, rfl, by omega, HQ.out, X8⟩
            · obtain rfl : TB = false := by rw [tb]; simp
              clear tb
              go_wp2_with fail
              go_at_call 27
              with_reducible refine YC.mono ?_
              rintro e v6 ⟨rfl, X6, _⟩
              have R1 := RC.out v6 X6
              go_wp2_with fail
              go_at_call 24
              with_reducible refine R1.mono ?_
              rintro e v7 ⟨rfl, X7⟩
              have T1 := TC.out v7 X7
              go_wp2_with (go_at_call 19; with_reducible refine T1.mono ?_; rintro e v8 ⟨rfl, X8⟩)
              go_meet
              exact ⟨cm, gt, TS, rfl, rfl, by omega, HQ.out, X8⟩
        · have RC := ix_recv HX2.out
          have RD : Hid ((recvE S = 0 ∧ Cnt r cm (gt + 1) (recvS S)) ∨ (recvE S ≠ 0 ∧ Cnt r cm gt (recvS S))) := recv_cnt HC.out
          have hgt : gt ≤ 120 := by have := HC.out.s; omega
          generalize recvE S = re at *
          generalize recvS S = RS at *
          generalize recvV S = rv at *
          obtain ⟨rs, rd, rq, rx⟩ := rv
          simp only [pkv, pkc] at RC
          clear CC CD HX2 N2 HC
          rcases RD.out with ⟨rfl, hq⟩ | ⟨hne, hq⟩
          · have HQ : Hid (Cnt r cm (gt + 1) RS) := hq
            clear hq RD
            go_wp2_with (go_at_call 21; with_reducible refine RC.mono ?_; rintro e v6 ⟨rfl, X6, _⟩)
            go_meet
            exact ⟨cm, gt + 1, RS, rfl, by go_num, by omega, HQ.out, X6.alloc' _⟩
          · have HQ : Hid (Cnt r cm gt RS) := hq
            have ce0 : (re == 0) = false := by simpa using hne
            clear hq RD hne
            go_wp2_with (go_at_call 21; with_reducible refine RC.mono ?_; rintro e v6 ⟨rfl, X6, _⟩)
            go_meet
            exact ⟨cm, gt, RS, rfl, rfl, by omega, HQ.out, X6.alloc' _⟩
      case rest =>
      obtain ⟨cm', gt', S', rfl, rfl, hcm', hC', X⟩ := hcut
      have ok := X.ok
      have hs := hC'.s
      have hn := hC'.n
      have hl := ok.len
      obtain ⟨x1, hx1⟩ : ∃ x1, S'.W.length = x1 := ⟨_, rfl⟩
      obtain ⟨x2, hx2⟩ : ∃ x2, S'.L.length = x2 := ⟨_, rfl⟩
      have WC := ix_waits X
      have LC : Hid (∀ v, Ix w v b S' NoB → Calls Try.prog 23 #[.pointer (some ⟨b, 0, none⟩)] v fun e v' => e = .returned (.int .i64 (x2 : Int)) ∧ Ix w v' b S' NoB) := show _ from fun v hv => (ix_len hv).mono fun _ _ h => ⟨by rw [h.1, hx2], h.2.1⟩
      have RC : Hid (∀ v, Ix w v b S' NoB → Calls Try.prog 24 #[.pointer (some ⟨b, 0, none⟩)] v fun e v' => e = .returned (.int .i64 ((r : Int) - (x2 : Int))) ∧ Ix w v' b S' NoB) := show _ from fun v hv => (ix_room hv).mono fun _ _ h => ⟨by rw [h.1, hx2, hn], h.2.1⟩
      rw [hx1] at WC
      rw [hx1, hx2] at hs
      rw [hx2, hn] at hl
      have nt : ((cm' : Int) != (x1 : Int) + (x2 : Int) + (gt' : Int)) = false := by rw [hs]; simp
      obtain ⟨rm, hrm⟩ : ∃ rm : Int, (r : Int) - (x2 : Int) = rm := ⟨_, rfl⟩
      rw [hrm] at RC
      have sm : rm + (x2 : Int) = (r : Int) := by omega
      have sb : 0 ≤ rm ∧ rm ≤ 8 := by omega
      obtain ⟨sb1, sb2⟩ := sb
      have HC' : Hid (Cnt r cm' gt' S') := hC'
      have g1 : x1 ≤ 121 := by omega
      have g2 : x2 ≤ 121 := by omega
      have g3 : gt' ≤ 121 := by omega
      clear ok hn hl hx1 hx2 hC' X hrm HX2 N2 HC CC CD hs
      go_wp2_with fail
      go_at_call 25
      with_reducible refine WC.mono ?_
      rintro e v6 ⟨rfl, X6, _⟩
      have L1 := LC.out v6 X6
      clear WC X6
      go_wp2_with fail
      go_at_call 23
      with_reducible refine L1.mono ?_
      rintro e v7 ⟨rfl, X7⟩
      have R1 := RC.out v7 X7
      clear L1 X7 RC
      go_wp2_with fail
      go_at_call 24
      with_reducible refine R1.mono ?_
      rintro e v8 ⟨rfl, X8⟩
      have L2 := LC.out v8 X8
      clear LC X8 R1
      go_wp2_with (go_at_call 23; with_reducible refine L2.mono ?_; rintro e v9 ⟨rfl, X9⟩)
      go_roundw
      case rel => exact ⟨k + 1, cm', gt', S', by omega, rfl, rfl, by go_num, hcm', HC'.out, X9⟩
      case measure => simp [intOf]; omega
    · have HB : Hid (Below w.heap.size w wr) := X.bl
      clear X hC
      go_wp2_with fail
      go_ret
      exact ⟨rfl, HB.out⟩
end Go.Proofs.Ytpmkpjnhdehnhaa
