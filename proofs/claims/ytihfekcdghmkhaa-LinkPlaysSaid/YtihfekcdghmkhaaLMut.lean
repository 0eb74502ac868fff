/-
  The program's link: a word is sent, carried, taken; a credit arrives.
-/
import Derived.Test.YtihfekcdghmkhaaLRead
import Derived.StillTailTactics
namespace Go.Proofs.Ytihfekcdghmkhaa
open Go.RowKit
open RC (Cl cc cv zc)
section
variable {w : World} {b : Nat} {S : LS} {F : Nat → Prop}
theorem fp_b {bi pi bw pw b q : Nat} : fp bi pi bw pw (Xo b q) b := Or.inr (Or.inr (Or.inr (Or.inr (Or.inl rfl))))
theorem fp_q {bi pi bw pw b q : Nat} : fp bi pi bw pw (Xo b q) q := Or.inr (Or.inr (Or.inr (Or.inr (Or.inr rfl))))
/-- Two cells of one lane are stored. -/
theorem LkAt.upd {w : World} {q cap : Nat} {cur : Array Value} {bi pi mi : Nat} {si : RI.RingSt} {bw pw mw : Nat} {sw : RC.RingSt} (two : Two w bi pi mi si bw pw mw sw (Xo b q)) (ne : b ≠ q) (c1 : S.n ≤ cap) (c2 : cap ≤ maxLen)
    (blk : Bk w b #[.pointer (some ⟨bw, 0, none⟩), .pointer (some ⟨bi, 0, none⟩), .slice (some ⟨q, 0, none⟩) S.n cap] 67) (row : Bk w q cur 70) {S' : LS} (hn : S'.n = S.n) (hd : S'.d = S.d) (hr : S'.r = S.r) {p i j : Nat} {x y : Value}
    (hl : Lanes S' ((cur.setIfInBounds (p * 4 + i) x).setIfInBounds (p * 4 + j) y)) (ir : si.room = ((S.n * S.d : Nat) : Int)) (il : si.laid = false) (ix : si.xs = S'.bk) (wr : sw.room = (S.r : Int)) (wl : sw.laid = false) (wx : sw.xs = S'.ws) :
    LkAt ((w.setCell ⟨q, p * 4 + i, none⟩ x).setCell ⟨q, p * 4 + j, none⟩ y) b S' q cap ((cur.setIfInBounds (p * 4 + i) x).setIfInBounds (p * 4 + j) y) bi pi mi si bw pw mw sw :=
  ⟨(two.set (Or.inr rfl)).set (Or.inr rfl), ne, hn ▸ c1, c2, by rw [hn]; exact (blk.far ne).far ne, (row.set _ _).set _ _, hl, by rw [hn, hd]; exact ir, il, ix, by rw [hr]; exact wr, wl, wx⟩
theorem gr_upd {w : World} {q : Nat} {bi pi mi : Nat} {si : RI.RingSt} {bw pw mw : Nat} {sw : RC.RingSt} (two : Two w bi pi mi si bw pw mw sw (Xo b q)) (i j : Nat) (x y : Value) :
    Gr (fp bi pi bw pw (Xo b q)) w ((w.setCell ⟨q, i, none⟩ x).setCell ⟨q, j, none⟩ y) (fp bi pi bw pw (Xo b q)) :=
  (two.gr_set (Or.inr rfl)).trans ((two.set (Or.inr rfl)).gr_set (Or.inr rfl))
theorem send_cases (S : LS) (k x : Int) : (¬ refE S k = 0 ∧ sendF S k x = (S, refE S k)) ∨ (∃ p : Nat, k = (p : Int) ∧ p < S.n ∧ ¬ S.cr.getD p 0 = 0 ∧ ¬ S.r ≤ S.ws.length ∧ refE S k = 0 ∧ sendF S k x = (putS S p x, 0)) := by
  unfold sendF refE
  by_cases h : inL S k = true
  · obtain ⟨p, rfl, hp⟩ := inL_nat h
    rw [if_pos h, if_pos h, Int.toNat_natCast]
    by_cases h0 : S.cr.getD p 0 = 0
    · rw [if_pos h0, if_pos h0]
      exact Or.inl ⟨by decide, rfl⟩
    · rw [if_neg h0, if_neg h0]
      by_cases h1 : S.r ≤ S.ws.length
      · rw [if_pos h1, if_pos h1]
        exact Or.inl ⟨by decide, rfl⟩
      · rw [if_neg h1, if_neg h1]
        exact Or.inr ⟨p, rfl, hp, h0, h1, rfl, rfl⟩
  · rw [if_neg h, if_neg h]
    exact Or.inl ⟨by decide, rfl⟩
theorem lanes_put {cur : Array Value} (ok : Ok S) (h : Lanes S cur) {p : Nat} (hp : p < S.n) (x : Int) :
    Lanes (putS S p x) ((cur.setIfInBounds (p * 4 + 0) (.int .i64 (S.cr.getD p 0 - 1))).setIfInBounds (p * 4 + 1) (.int .i64 ((fly S.ws (p : Int) : Int) + 1))) := by
  refine h.put (S' := putS S p x) (i := 0) (k := 1) rfl hp (by decide) (by decide) (fun p' hp' => l4_two (fun hne j => l4_of (S' := putS S p x) (S := S) (p := p') ?_ ?_ rfl rfl j) (fun j hj h1 h2 => ?_)) ?_ ?_ (by decide)
  · simp only [putS]
    rw [getD_set_if _ _ _ _ (by rw [ok.cl]; exact hp), if_neg hne]
  · simp only [putS]
    rw [fly_app, if_neg (by show ¬ (p : Int) = (p' : Int); omega), Nat.add_zero]
  · rcases (show j = 2 ∨ j = 3 by omega) with rfl | rfl <;> rfl
  · show Value.int .i64 ((putS S p x).cr.getD p 0) = _
    simp only [putS]
    rw [getD_set_if _ _ _ _ (by rw [ok.cl]; exact hp), if_pos rfl]
    rfl
  · show Value.int .i64 (fly (putS S p x).ws (p : Int) : Int) = _
    simp only [putS]
    rw [fly_app, if_pos rfl]
    rfl
set_option maxHeartbeats 4000000 in
theorem link_send (h : Lk w b S F) (k x : Int) : Calls Try.prog 30 #[.pointer (some ⟨b, 0, none⟩), cv ⟨k, x⟩] w fun e w' => ∃ F', e = .returned (.int .i64 (sendF S k x).2) ∧ Lk w' b (sendF S k x).1 F' ∧ Gr F w w' F' := by
  have B0 : Hid (Below w.heap.size w (w.alloc (.cells #[.int .i64 k, .int .u64 x] 35))) := (Below.refl _ _).alloc (Nat.le_refl _) _
  have N0 : Hid (Bk (w.alloc (.cells #[.int .i64 k, .int .u64 x] 35)) w.heap.size #[.int .i64 k, .int .u64 x] 35) := Bk.new _ _ _
  have h1 : Lk (w.alloc (.cells #[.int .i64 k, .int .u64 x] 35)) b S F := h.next B0.out
  have RR := lref_any h1 k
  have H1 : Hid (Lk (w.alloc (.cells #[.int .i64 k, .int .u64 x] 35)) b S F) := h1
  have nF : Hid (¬ F w.heap.size) := show ¬ F w.heap.size from fun c => by have := h.lt _ c; omega
  clear h1
  simp only [cv]
  rcases send_cases S k x with ⟨h0, h2⟩ | ⟨p, rfl, hp, h0, h1, h2, h3⟩
  · rw [h2]
    clear h2 h
    generalize refE S k = r at *
    have d0 := N0.out.cell 0
    simp only [List.getElem?_toArray, List.getElem?_cons_zero] at d0
    go_enter Try.func30, Try.ntmps30
    go_upto_region 1 with fail
    generalize w.alloc (.cells #[.int .i64 k, .int .u64 x] 35) = v at *
    go_wp2_with (go_at_call 40; with_reducible refine RR.mono ?_; rintro e w1 ⟨rfl, m, rfl⟩)
    go_ret
    exact ⟨F, rfl, H1.out.drewN m, (Gr.of B0.out).below (dn (Below.refl _ _) m)⟩
  · rw [h3]
    rw [h2] at RR
    have d0 := N0.out.cell 0
    simp only [List.getElem?_toArray, List.getElem?_cons_zero] at d0
    have HP : Hid (p < S.n ∧ ¬ S.cr.getD p 0 = 0 ∧ ¬ S.r ≤ S.ws.length) := ⟨hp, h0, h1⟩
    clear h h2 h3 h0 h1 hp
    go_enter Try.func30, Try.ntmps30
    go_upto_region 1 with fail
    generalize w.alloc (.cells #[.int .i64 (p : Int), .int .u64 x] 35) = v at *
    obtain ⟨nb, hnb⟩ : ∃ y, w.heap.size = y := ⟨_, rfl⟩
    have HB : Hid (w.heap.size = nb) := hnb
    rw [hnb] at B0 N0 nF d0 ⊢
    clear hnb
    go_wp2_with (go_at_call 40; with_reducible refine RR.mono ?_; rintro e w1 ⟨rfl, m, rfl⟩)
    have H2 := H1.out.drewN m
    have N2 : Bk (v.drewN m) nb #[.int .i64 (p : Int), .int .u64 x] 35 := N0.out.drewN m
    have B2 : Hid (Below nb w (v.drewN m)) := dn B0.out m
    clear H1 N0 B0 d0 RR
    generalize v.drewN m = u at *
    have d0 := N2.cell 0
    have d1 := N2.cell 1
    simp only [List.getElem?_toArray, List.getElem?_cons_zero, List.getElem?_cons_succ] at d0 d1
    obtain ⟨ok, q, cap, cur, bi, pi, mi, si, bw, pw, mw, sw, hl, rfl⟩ := H2
    have c0 := hl.blk.cell 0
    simp only [List.getElem?_toArray, List.getElem?_cons_zero] at c0
    go_still_tail 5, (by kernel_rfl)
    change wpList _ _ _ _ _ u.drew
    have hl2 : LkAt u.drew b S q cap cur bi pi mi si bw pw mw sw := hl.next (Below.refl _ _).drew
    have NN : Hid (Bk u.drew nb #[.int .i64 (p : Int), .int .u64 x] 35) := N2
    have B3 : Hid (Below nb w u.drew) := B2.out.drew
    clear hl N2 B2 d0 d1 c0
    generalize u.drew = u2 at *
    obtain ⟨hp, hz, hr⟩ := HP.out
    have hr1 := ok.r1
    have hr2 := ok.r64
    obtain ⟨k1, k2, k3, k4⟩ := RC.push_ok hl2.wl (show (sw.xs.length : Int) < _ by rw [hl2.wx, hl2.wr]; omega) ⟨(p : Int), x⟩
    have PC := RC.ring_push hl2.two.rc ⟨(p : Int), x⟩
    rw [k1] at PC
    simp only [cv] at PC
    have HK : Hid ((RC.pushS sw ⟨(p : Int), x⟩).laid = false ∧ (RC.pushS sw ⟨(p : Int), x⟩).room = sw.room ∧ (RC.pushS sw ⟨(p : Int), x⟩).xs = sw.xs ++ [⟨(p : Int), x⟩]) := ⟨k2, k3, k4⟩
    have HL : Hid (LkAt u2 b S q cap cur bi pi mi si bw pw mw sw) := hl2
    have HO : Hid (Ok S) := ok
    clear k1 k2 k3 k4 hr1 hr2 hl2 hp hz hr ok
    generalize RC.pushS sw ⟨(p : Int), x⟩ = sw' at *
    go_wp2_with (go_at_call 47; with_reducible refine PC.mono ?_; rintro e w2 ⟨rfl, hstp⟩)
    obtain ⟨pw', mw', two, hg, hx⟩ := HL.out.two.stepC hstp
    have HG : Hid (Gr (fp bi pi bw pw (Xo b q)) u2 w2 (fp bi pi bw pw' (Xo b q))) := hg
    have HT : Hid (Two w2 bi pi mi si bw pw' mw' sw' (Xo b q)) := two
    have N4 : Bk w2 nb #[.int .i64 (p : Int), .int .u64 x] 35 := NN.out.gr hg nF.out
    have K1 : Bk w2 b #[.pointer (some ⟨bw, 0, none⟩), .pointer (some ⟨bi, 0, none⟩), .slice (some ⟨q, 0, none⟩) S.n cap] 67 := by unfold Bk; rw [hx b (Or.inl rfl)]; exact HL.out.blk
    have K2 : Bk w2 q cur 70 := by unfold Bk; rw [hx q (Or.inr rfl)]; exact HL.out.row
    have d0 := N4.cell 0
    have c2 := K1.cell 2
    have g0 : w2.cell? ⟨q, p * 4, none⟩ = some (.int .i64 (S.cr.getD p 0)) := by rw [K2.cell]; exact HL.out.lanes p HP.out.1 0 (by decide)
    have g1 : w2.cell? ⟨q, p * 4 + 1, none⟩ = some (.int .i64 (fly S.ws (p : Int) : Int)) := by rw [K2.cell]; exact HL.out.lanes p HP.out.1 1 (by decide)
    have z0 := K2.free (p * 4)
    have z1 := K2.free (p * 4 + 1)
    have hsum := HO.out.sum p HP.out.1
    have hd64 := HO.out.d64
    have v0 : IntKind.i64.wrap (S.cr.getD p 0 - 1) = S.cr.getD p 0 - 1 := IntWalk.i64_in _ (by omega)
    have v1 : IntKind.i64.wrap ((fly S.ws (p : Int) : Int) + 1) = (fly S.ws (p : Int) : Int) + 1 := IntWalk.i64_in _ (by omega)
    have i0 : (0 : Int) ≤ (p : Int) := by omega
    have i1 : (p : Int) < (S.n : Int) := by have := HP.out.1; omega
    have HK1 : Hid _ := K1
    have HK2 : Hid _ := K2
    simp only [List.getElem?_toArray, List.getElem?_cons_zero, List.getElem?_cons_succ] at c2 d0
    have L2 := lanes_put HO.out HL.out.lanes HP.out.1 x
    obtain ⟨X, hX⟩ : ∃ X, S.cr.getD p 0 = X := ⟨_, rfl⟩
    obtain ⟨Y, hY⟩ : ∃ Y : Int, (fly S.ws (p : Int) : Int) = Y := ⟨_, rfl⟩
    rw [hX] at g0 v0 L2
    rw [hY] at g1 v1 L2
    obtain ⟨X2, hX2⟩ : ∃ y, X - 1 = y := ⟨_, rfl⟩
    obtain ⟨Y2, hY2⟩ : ∃ y, Y + 1 = y := ⟨_, rfl⟩
    have u0 : IntKind.i64.wrap (X - 1) = X2 := v0.trans hX2
    have u1 : IntKind.i64.wrap (Y + 1) = Y2 := v1.trans hY2
    rw [hX2, hY2] at L2
    have HL2 : Hid _ := L2
    clear hX hY v0 v1 L2 hX2 hY2
    clear K1 K2 N4 hg hx two hstp hsum hd64 NN
    go_quiet (fail)
    go_wp2
    go_ret
    obtain ⟨k1, k2, k3⟩ := HK.out
    have T2 : Two (w2.drewN nq) bi pi mi si bw pw' mw' sw' (Xo b q) := HT.out.below (dn (Below.refl _ _) nq)
    refine ⟨fp bi pi bw pw' (Xo b q), rfl, ⟨HO.out.put HP.out.1 HP.out.2.1 HP.out.2.2 x, q, cap, _, bi, pi, mi, si, bw, pw', mw', sw', LkAt.upd (S := S) (S' := putS S p x) (p := p) (i := 0) (j := 1) T2 HL.out.ne HL.out.cap1 HL.out.cap2 (Bk.drewN HK1.out nq) (Bk.drewN HK2.out nq) rfl rfl rfl HL2.out HL.out.ir HL.out.il HL.out.ix (k2.trans HL.out.wr) k1 (k3.trans (by rw [HL.out.wx]; rfl)), rfl⟩, ?_⟩
    exact ((show Gr (fp bi pi bw pw (Xo b q)) w u2 (fp bi pi bw pw (Xo b q)) from Gr.of (by rw [HB.out]; exact B3.out)).trans (HG.out.below (dn (Below.refl _ _) nq))).trans (gr_upd T2 _ _ _ _)
end
end Go.Proofs.Ytihfekcdghmkhaa
