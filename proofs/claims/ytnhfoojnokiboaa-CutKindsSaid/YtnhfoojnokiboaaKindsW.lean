/-
  The walk of CutKinds.
-/
import Derived.Test.YtnhfoojnokiboaaLB
namespace Go.Proofs.Ytnhfoojnokiboaa
open Go.RowKit

/-- The bytes of the first flits. -/
def dt (P : Pc) (k : Nat) : ByteArray := (coll (P.fls.take k)).x
theorem dt_all {P : Pc} (h : 1 ≤ P.hs.length) : dt P P.ws.length = P.x := by
  unfold dt
  rw [show P.ws.length = P.fls.length by rw [ws_len, fls_len], List.take_length, coll_fls h]
theorem dt_step {P : Pc} {k : Nat} {F : Fl} (h : P.fls[k]? = some F) : dt P (k + 1) = dt P k ++ F.x := by
  unfold dt
  have e : P.fls.take (k + 1) = P.fls.take k ++ [F] := by
    rw [List.take_add_one, h]
    rfl
  rw [e, coll_snoc]
  unfold Pc.add
  split <;> rfl
/-- The flit of a word, by where it lies. -/
theorem fls_get {P : Pc} (hok : P.okB = true) {k : Nat} (h : k < P.ws.length) : ∃ F : Fl, P.ws.getD k 0 = F.word ∧ F.rightB = true ∧ dt P (k + 1) = dt P k ++ F.x ∧ F.x.size ≤ 6 ∧
    ((k < P.hs.length ∧ F.k = 1 ∧ F.l = P.x.size ∧ F.m = decide (k + 1 < P.hs.length) ∧ F.c = P.c) ∨ (¬ k < P.hs.length ∧ ¬ k + 1 = P.ws.length ∧ F.k = 2) ∨ (¬ k < P.hs.length ∧ k + 1 = P.ws.length ∧ F.k = 3)) := by
  rw [ws_len] at h ⊢
  by_cases h1 : k < P.hs.length
  · exact ⟨hdF P k, ws_head h1, hd_right hok h1, dt_step (fls_head h1), by show ByteArray.empty.size ≤ 6; decide, Or.inl ⟨h1, rfl, rfl, rfl, rfl⟩⟩
  · by_cases h2 : k < P.hs.length + nb P.x.size
    · obtain ⟨j, rfl⟩ : ∃ j, k = P.hs.length + j := ⟨k - P.hs.length, by omega⟩
      have hj : j < nb P.x.size := by omega
      exact ⟨bdF P.x j, ws_body hj, bd_right hj, dt_step (fls_body hj), by show (P.x.extract (6 * j) (6 * j + 6)).size ≤ 6; rw [ByteArray.size_extract]; omega, Or.inr (Or.inl ⟨h1, by omega, rfl⟩)⟩
    · obtain rfl : k = P.hs.length + nb P.x.size := by omega
      exact ⟨tlF P.x, ws_tail P, tl_right _, dt_step (fls_tail P), nb_end, Or.inr (Or.inr ⟨h1, by omega, rfl⟩)⟩

set_option maxRecDepth 100000 in
set_option maxHeartbeats 8000000 in
theorem kinds_law (s : Int) (c : Bool) (a : Option Addr) (cap : Nat) (x : ByteArray) (hs : List (Int × Int)) (w : World) (hm : hs.length ≤ maxLen) (hx : x.size ≤ maxLen) (hr : Rd w a (pc hs)) :
    Calls Try.prog 6 #[pcv s c (.slice a hs.length cap) x] w fun e w' => e = .returned (.bool true) ∧ Below w.heap.size w w' := by
  have F := fine ⟨s, c, hs, x⟩
  have HBP : Hid (bp (gd ⟨s, c, hs, x⟩) = gd ⟨s, c, hs, x⟩) := bp_gd _
  have GC : ∀ w', Rd w' a (pc hs) → Calls Try.prog 20 #[pcv s c (.slice a hs.length cap) x] w' (PcR w' (gd ⟨s, c, hs, x⟩)) := fun w' h => good_any s c a cap x hs w' hm hx h
  generalize gd ⟨s, c, hs, x⟩ = P at *
  obtain ⟨n, hn⟩ : ∃ n, hs.length = n := ⟨_, rfl⟩
  rw [hn] at GC ⊢
  have HR : Hid (Rd w a (pc hs)) := hr
  have HG : Hid (∀ w', Rd w' a (pc hs) → Calls Try.prog 20 #[pcv s c (.slice a n cap) x] w' (PcR w' P)) := GC
  have H0 : Hid (Bk (w.alloc (.cells #[.int .i64 s, .bool c, .slice a n cap, .string x] 24)) w.heap.size #[.int .i64 s, .bool c, .slice a n cap, .string x] 24) := Bk.new _ _ _
  have B0 : Hid (Below w.heap.size w (w.alloc (.cells #[.int .i64 s, .bool c, .slice a n cap, .string x] 24))) := (Below.refl _ _).alloc (Nat.le_refl _) _
  have LV := lives_any (w.alloc (.cells #[.int .i64 s, .bool c, .slice a n cap, .string x] 24))
  clear hr hn hm hx GC
  simp only [pcv, pcc] at *
  go_enter Try.func6, Try.ntmps6
  go_wp2_with fail
  go_at_call 8
  with_reducible refine LV.mono ?_
  rintro e w1 ⟨rfl, hb1⟩
  have B1 : Hid (Below w.heap.size w w1) := B0.out.trans (hb1.mono B0.out.size)
  have H1 : Hid (Bk w1 w.heap.size #[.int .i64 s, .bool c, .slice a n cap, .string x] 24) := H0.out.next hb1
  have c0 := H1.out.cell 0
  have c1 := H1.out.cell 1
  have c2 := H1.out.cell 2
  have c3 := H1.out.cell 3
  simp at c0 c1 c2 c3
  have GW := HG.out w1 (HR.out.below B1.out)
  clear LV hb1 H0 B0
  go_wp2_with fail
  go_at_call 20
  with_reducible refine GW.mono ?_
  rintro e w2 ⟨ga, gcap, rfl, hgc, rd2, hb2⟩
  have B2 : Hid (Below w.heap.size w w2) := B1.out.trans (hb2.mono B1.out.size)
  have BK := F.back ga gcap w2 rd2 HBP.out
  simp only [pcv, pcc] at BK
  clear GW hb2 H1 B1 HG c0 c1 c2 c3 hgc rd2
  go_wp2_with fail
  go_at_call 9
  with_reducible refine BK.mono ?_
  rintro e w3 ⟨ba, bcap, rfl, hbc, rd3, hb3⟩
  have B3 : Hid (Below w.heap.size w (w3.alloc (.cells #[.int .i64 P.s, .bool P.c, .slice ba P.hs.length bcap, .string P.x] 28))) := (B2.out.trans (hb3.mono B2.out.size)).alloc (Nat.le_trans B2.out.size hb3.size) _
  have X3 : Hid (Bk (w3.alloc (.cells #[.int .i64 P.s, .bool P.c, .slice ba P.hs.length bcap, .string P.x] 28)) w3.heap.size #[.int .i64 P.s, .bool P.c, .slice ba P.hs.length bcap, .string P.x] 28) := Bk.new _ _ _
  have R3 : Hid (Rd (w3.alloc (.cells #[.int .i64 P.s, .bool P.c, .slice ba P.hs.length bcap, .string P.x] 28)) ba (pc P.hs)) := rd3.alloc _
  clear BK hb3 B2 hbc rd3 HBP
  go_upto_region 4 with fail
  generalize w3.alloc (.cells #[.int .i64 P.s, .bool P.c, .slice ba P.hs.length bcap, .string P.x] 28) = v3 at *
  generalize w3.heap.size = b at *
  have c0 := X3.out.cell 0
  have c1 := X3.out.cell 1
  have c2 := X3.out.cell 2
  have c3 := X3.out.cell 3
  simp at c0 c1 c2 c3
  have WC := F.words ba bcap v3 R3.out
  simp only [pcv, pcc] at WC
  go_wp2_with fail
  go_at_call 10
  with_reducible refine WC.mono ?_
  rintro e w4 ⟨la, lcap, rfl, hlc, rd4, hb4⟩
  have B4 : Hid (Below w.heap.size w w4) := B3.out.trans (hb4.mono B3.out.size)
  have X4 : Hid (Bk w4 b #[.int .i64 P.s, .bool P.c, .slice ba P.hs.length bcap, .string P.x] 28) := X3.out.next hb4
  have L4 : Hid (Rd w4 la (vw P.ws)) := rd4
  clear WC hb4 B3 X3 R3 c0 c1 c2 c3 hlc rd4
  have HNW := F.ws_small
  have hl1 : 1 ≤ P.hs.length := F.l1
  have hl6 : P.hs.length ≤ 6 := F.l6
  have HG : Hid (∀ k, k < P.ws.length → ∃ F : Fl, P.ws.getD k 0 = F.word ∧ F.rightB = true ∧ dt P (k + 1) = dt P k ++ F.x ∧ F.x.size ≤ 6 ∧
    ((k < P.hs.length ∧ F.k = 1 ∧ F.l = P.x.size ∧ F.m = decide (k + 1 < P.hs.length) ∧ F.c = P.c) ∨ (¬ k < P.hs.length ∧ ¬ k + 1 = P.ws.length ∧ F.k = 2) ∨ (¬ k < P.hs.length ∧ k + 1 = P.ws.length ∧ F.k = 3))) := show _ from fun k hk => fls_get F.ok hk
  have HAL : Hid (dt P P.ws.length = P.x) := dt_all F.l1
  have HVA : Hid (∀ k, k < P.ws.length → (vw P.ws)[k]? = some (.int .u64 ((P.ws.getD k 0 : Nat) : Int))) := show _ from fun k hk => vw_at hk
  clear F HR
  obtain ⟨m, hmm⟩ : ∃ m, P.hs.length = m := ⟨_, rfl⟩
  obtain ⟨q, hq⟩ : ∃ q, P.ws.length = q := ⟨_, rfl⟩
  rw [hq] at HNW HG HAL HVA ⊢
  rw [hmm] at X4 HNW hl1 hl6 HG ⊢
  clear hq hmm
  obtain ⟨n1, n2⟩ := HNW
  have n3 : m < q := by omega
  clear n2
  obtain ⟨Ps, hPs⟩ : ∃ z, P.s = z := ⟨_, rfl⟩
  obtain ⟨Pc', hPc⟩ : ∃ z, P.c = z := ⟨_, rfl⟩
  obtain ⟨Px, hPx⟩ : ∃ z, P.x = z := ⟨_, rfl⟩
  rw [hPs, hPc, hPx] at X4 ⊢
  rw [hPc, hPx] at HG
  rw [hPx] at HAL
  clear hPs hPc hPx
  go_wp2_with fail
  go_loopw [6, 7] (fun d i wr => ∃ (k : Nat) (D : ByteArray), k ≤ q ∧ i = .int .i64 k ∧ d = .string D ∧ D = dt P k ∧ D.size ≤ 6 * k ∧ Below w4.heap.size w4 wr) (fun _ i _ => q - (RowKit.intOf i).toNat)
  case atStart => exact ⟨0, ⟨#[]⟩, Nat.zero_le _, rfl, rfl, rfl, Nat.le_refl _, Below.refl _ _⟩
  case round =>
    obtain ⟨k, D, hk, rfl, rfl, hD, hDs, hb⟩ := hrel
    have HD : Hid (D = dt P k) := hD
    have HB : Hid (Below w4.heap.size w4 wr) := hb
    have X5 : Hid (Bk wr b #[.int .i64 Ps, .bool Pc', .slice ba m bcap, .string Px] 28) := X4.out.below hb X4.out.lt
    have c0 := X5.out.cell 0
    have c1 := X5.out.cell 1
    have c2 := X5.out.cell 2
    have c3 := X5.out.cell 3
    simp only [List.getElem?_toArray, List.getElem?_cons_zero, List.getElem?_cons_succ] at c0 c1 c2 c3
    have hbz : b < wr.heap.size := X5.out.lt
    clear hD hb X4
    by_cases hlt : k < q
    · have e1 : (k : Int) < (q : Int) := by omega
      have e2 : (0 : Int) ≤ (k : Int) := by omega
      obtain ⟨g, o, rfl, hg, l0⟩ := L4.out k _ (HVA.out k hlt)
      replace l0 := (HB.out.cell (p := ⟨g, o + k, none⟩) hg).trans l0
      obtain ⟨F, f1, f2, f3, f4, f5⟩ := HG.out k hlt
      rw [f1] at l0
      have RC := fun w => fread_any F.word (word_lt F) w
      rw [readR_word f2] at RC
      rw [← HD.out] at f3
      have HDT : Hid (dt P (k + 1) = D ++ F.x) := f3
      have HDS : Hid ((D ++ F.x).size ≤ 6 * (k + 1)) := show _ ≤ _ by rw [ByteArray.size_append]; omega
      have sx : (D ++ F.x).size ≤ 9223372036854775807 := by rw [ByteArray.size_append]; omega
      have sx2 : D.size + F.x.size ≤ 9223372036854775807 := by omega
      clear f1 f2 f3 hg
      obtain ⟨W, hW⟩ : ∃ W, F.word = W := ⟨_, rfl⟩
      rw [hW] at l0 RC
      clear hW
      obtain ⟨fk, fs, fd, fq, fl, fm, fc, fx⟩ := F
      simp only [flv, flc] at *
      go_upto_region 10 with (go_at_call 24; (with_reducible refine (RC _).mono ?_); rintro e wa ⟨rfl, hba⟩)
      have XB : Hid (Below w4.heap.size w4 (wa.alloc (.cells #[.int .i64 fk, .int .i64 fs, .int .i64 fd, .int .i64 fq, .int .i64 fl, .bool fm, .bool fc, .string fx] 58))) := (HB.out.trans (hba.mono HB.out.size)).alloc (Nat.le_trans HB.out.size hba.size) _
      have FF : Bk (wa.alloc (.cells #[.int .i64 fk, .int .i64 fs, .int .i64 fd, .int .i64 fq, .int .i64 fl, .bool fm, .bool fc, .string fx] 58)) wa.heap.size #[.int .i64 fk, .int .i64 fs, .int .i64 fd, .int .i64 fq, .int .i64 fl, .bool fm, .bool fc, .string fx] 58 := Bk.new _ _ _
      have X6 : Bk (wa.alloc (.cells #[.int .i64 fk, .int .i64 fs, .int .i64 fd, .int .i64 fq, .int .i64 fl, .bool fm, .bool fc, .string fx] 58)) b #[.int .i64 Ps, .bool Pc', .slice ba m bcap, .string Px] 28 := (X5.out.next hba).alloc _
      have hz : wa.heap.size < (wa.alloc (.cells #[.int .i64 fk, .int .i64 fs, .int .i64 fd, .int .i64 fq, .int .i64 fl, .bool fm, .bool fc, .string fx] 58)).heap.size := FF.lt
      clear RC hba HB X5 c0 c1 c2 c3 l0
      generalize wa.alloc (.cells #[.int .i64 fk, .int .i64 fs, .int .i64 fd, .int .i64 fq, .int .i64 fl, .bool fm, .bool fc, .string fx] 58) = wf at *
      generalize wa.heap.size = bf at *
      have c0 := X6.cell 0
      have c1 := X6.cell 1
      have c2 := X6.cell 2
      have c3 := X6.cell 3
      have g0 := FF.cell 0
      have g4 := FF.cell 4
      have g5 := FF.cell 5
      have g6 := FF.cell 6
      have g7 := FF.cell 7
      simp only [List.getElem?_toArray, List.getElem?_cons_zero, List.getElem?_cons_succ] at c0 c1 c2 c3 g0 g4 g5 g6 g7
      clear X6 FF
      rcases f5 with ⟨h1, rfl, rfl, hfm, rfl⟩ | ⟨h1, h2, rfl⟩ | ⟨h1, h2, rfl⟩
      · have i1 : (k : Int) < (m : Int) := by omega
        by_cases hmore : k + 1 < m
        · have i2 : (k : Int) + 1 < (m : Int) := by omega
          obtain rfl : fm = true := by rw [hfm]; exact decide_eq_true hmore
          clear hfm hmore
          go_wp2
          go_roundw
          case rel => exact ⟨k + 1, D ++ fx, by omega, by go_num, rfl, HDT.out.symm, HDS.out, XB.out⟩
          case measure => simp [RowKit.intOf]; omega
        · have i2 : ¬ (k : Int) + 1 < (m : Int) := by omega
          obtain rfl : fm = false := by rw [hfm]; exact decide_eq_false hmore
          clear hfm hmore
          go_wp2
          go_roundw
          case rel => exact ⟨k + 1, D ++ fx, by omega, by go_num, rfl, HDT.out.symm, HDS.out, XB.out⟩
          case measure => simp [RowKit.intOf]; omega
      · have i1 : ¬ (k : Int) < (m : Int) := by omega
        have i2 : ¬ (k : Int) = (q : Int) - 1 := by omega
        have i3 : ((k : Int) == (q : Int) - 1) = false := by simpa using i2
        clear h1 h2
        go_wp2
        go_roundw
        case rel => exact ⟨k + 1, D ++ fx, by omega, by go_num, rfl, HDT.out.symm, HDS.out, XB.out⟩
        case measure => simp [RowKit.intOf]; omega
      · have i1 : ¬ (k : Int) < (m : Int) := by omega
        have i2 : (k : Int) = (q : Int) - 1 := by omega
        have i3 : ((k : Int) == (q : Int) - 1) = true := by simpa using i2
        clear h1 h2 i2
        go_wp2
        go_roundw
        case rel => exact ⟨k + 1, D ++ fx, by omega, by go_num, rfl, HDT.out.symm, HDS.out, XB.out⟩
        case measure => simp [RowKit.intOf]; omega
    · obtain rfl : k = q := by omega
      have e1 : ¬ (k : Int) < (k : Int) := by omega
      obtain rfl : D = Px := by rw [HD.out, HAL.out]
      have e3 : (m : Int) < (k : Int) := by omega
      have B9 : Hid (Below w.heap.size w wr) := B4.out.trans (HB.out.mono B4.out.size)
      go_wp2
      go_ret
      exact ⟨rfl, B9.out⟩
end Go.Proofs.Ytnhfoojnokiboaa
