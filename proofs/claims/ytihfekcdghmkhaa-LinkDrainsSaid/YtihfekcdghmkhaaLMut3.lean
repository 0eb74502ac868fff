/-
  The program's link: a word is taken, a credit arrives.
-/
import Derived.Test.YtihfekcdghmkhaaLMut
namespace Go.Proofs.Ytihfekcdghmkhaa
open Go.RowKit
open RC (Cl cc cv zc)
section
variable {w : World} {b : Nat} {S : LS} {F : Nat → Prop}
theorem lanes_back {cur : Array Value} (ok : Ok S) (h : Lanes S cur) {p : Nat} (hp : p < S.n) :
    Lanes (backS S p) ((cur.setIfInBounds (p * 4 + 2) (.int .i64 (S.far.getD p 0 - 1))).setIfInBounds (p * 4 + 3) (.int .i64 ((com S.bk (p : Int) : Int) + 1))) := by
  refine h.put (S' := backS S p) (i := 2) (k := 3) rfl hp (by decide) (by decide) (fun p' hp' => l4_two (fun hne j => l4_of (S' := backS S p) (S := S) (p := p') rfl rfl ?_ ?_ j) (fun j hj h1 h2 => ?_)) ?_ ?_ (by decide)
  · simp only [backS]
    rw [getD_set_if _ _ _ _ (by rw [ok.fl]; exact hp), if_neg hne]
  · simp only [backS]
    rw [com_app, if_neg (by omega), Nat.add_zero]
  · rcases (show j = 0 ∨ j = 1 by omega) with rfl | rfl <;> rfl
  · show Value.int .i64 ((backS S p).far.getD p 0) = _
    simp only [backS]
    rw [getD_set_if _ _ _ _ (by rw [ok.fl]; exact hp), if_pos rfl]
    rfl
  · show Value.int .i64 (com (backS S p).bk (p : Int) : Int) = _
    simp only [backS]
    rw [com_app, if_pos rfl]
    rfl
theorem lanes_credit {cur : Array Value} (ok : Ok S) (h : Lanes S cur) {p : Nat} {t : List Int} (hw : S.bk = (p : Int) :: t) (hp : p < S.n) :
    Lanes (creditF S).1 ((cur.setIfInBounds (p * 4 + 3) (.int .i64 ((com S.bk (p : Int) : Int) - 1))).setIfInBounds (p * 4 + 0) (.int .i64 (S.cr.getD p 0 + 1))) := by
  have e : (creditF S).1 = { S with cr := S.cr.set p (S.cr.getD p 0 + 1), bk := t } := by unfold creditF; rw [hw]; simp only [Int.toNat_natCast]
  rw [e]
  refine h.put (S' := { S with cr := S.cr.set p (S.cr.getD p 0 + 1), bk := t }) (i := 3) (k := 0) rfl hp (by decide) (by decide) (fun p' hp' => l4_two (fun hne j => l4_of (S' := { S with cr := S.cr.set p (S.cr.getD p 0 + 1), bk := t }) (S := S) (p := p') ?_ rfl rfl ?_ j) (fun j hj h1 h2 => ?_)) ?_ ?_ (by decide)
  · show (S.cr.set p _).getD p' 0 = _
    rw [getD_set_if _ _ _ _ (by rw [ok.cl]; exact hp), if_neg hne]
  · show com t (p' : Int) = com S.bk (p' : Int)
    rw [hw, com_cons, if_neg (by omega), Nat.zero_add]
  · rcases (show j = 1 ∨ j = 2 by omega) with rfl | rfl <;> rfl
  · show Value.int .i64 (com t (p : Int) : Int) = _
    rw [hw, com_cons, if_pos rfl]
    congr 1
    omega
  · show Value.int .i64 ((S.cr.set p _).getD p 0) = _
    rw [getD_set_if _ _ _ _ (by rw [ok.cl]; exact hp), if_pos rfl]
theorem nil_taken (k : Int) (w : World) : Calls Try.prog 27 #[.pointer none, .int .i64 k] w fun e w' => e = .returned (.int .i64 1) ∧ Below w.heap.size w w' := by
  have HC := fun w => has_nil k w
  go_enter Try.func27, Try.ntmps27
  go_wp2_with (go_at_call 42; with_reducible refine (HC _).mono ?_; rintro e w1 ⟨rfl, rfl⟩)
  go_ret
  exact ⟨rfl, Below.refl _ _⟩
theorem nil_credit (w : World) : Calls Try.prog 28 #[.pointer none] w fun e w' => e = .returned (.int .i64 1) ∧ Below w.heap.size w w' := by
  go_enter Try.func28, Try.ntmps28
  go_wp2
  go_ret
  exact ⟨rfl, Below.refl _ _⟩
set_option maxHeartbeats 4000000 in
theorem link_taken (h : Lk w b S F) (k : Int) : Calls Try.prog 27 #[.pointer (some ⟨b, 0, none⟩), .int .i64 k] w fun e w' => ∃ F', e = .returned (.int .i64 (takenF S k).2) ∧ Lk w' b (takenF S k).1 F' ∧ Gr F w w' F' := by
  have HC := lhas_any h k
  have HL0 : Hid (Lk w b S F) := h
  by_cases hk : inL S k = true
  · obtain ⟨p, rfl, hp⟩ := inL_nat hk
    rw [hk] at HC
    obtain ⟨ok, q, cap, cur, bi, pi, mi, si, bw, pw, mw, sw, hl, rfl⟩ := h
    have c1 := hl.blk.cell 1
    have c2 := hl.blk.cell 2
    simp only [List.getElem?_toArray, List.getElem?_cons_zero, List.getElem?_cons_succ] at c1 c2
    have g2 := (hl.four hp).2.2.1
    have i0 : (0 : Int) ≤ (p : Int) := by omega
    have i1 : (p : Int) < (S.n : Int) := by omega
    by_cases hz : S.far.getD p 0 = 0
    · have e1 : takenF S (p : Int) = (S, 13) := by unfold takenF; rw [if_pos hk, Int.toNat_natCast, if_pos hz]
      rw [e1]
      rw [hz] at g2
      clear e1 hz hk hl ok hp
      generalize S.n = n at *
      go_enter Try.func27, Try.ntmps27
      go_wp2_with (go_at_call 42; with_reducible refine HC.mono ?_; rintro e w1 ⟨rfl, rfl⟩)
      go_ret
      exact ⟨_, rfl, HL0.out, Gr.refl _ _⟩
    · have e1 : takenF S (p : Int) = (backS S p, 0) := by unfold takenF; rw [if_pos hk, Int.toNat_natCast, if_neg hz]
      rw [e1]
      have hroom := ok.bk_room hp hz
      have hnd : S.n * S.d ≤ 8 * 64 := Nat.mul_le_mul ok.n8 ok.d64
      obtain ⟨k1, k2, k3, k4⟩ := RI.push_ok hl.il (show (si.xs.length : Int) < _ by rw [hl.ix, hl.ir]; omega) (p : Int)
      have PC := RI.ring_push hl.two.ri (p : Int)
      rw [k1] at PC
      have HK : Hid ((RI.pushS si (p : Int)).laid = false ∧ (RI.pushS si (p : Int)).room = si.room ∧ (RI.pushS si (p : Int)).xs = si.xs ++ [(p : Int)]) := ⟨k2, k3, k4⟩
      have L0 := lanes_back ok hl.lanes hp
      have hsum := ok.sum p hp
      have hd64 := ok.d64
      have HOK : Hid (Ok (backS S p)) := ok.backd hp hz
      obtain ⟨X, hX⟩ : ∃ X, S.far.getD p 0 = X := ⟨_, rfl⟩
      obtain ⟨Y, hY⟩ : ∃ Y : Int, (com S.bk (p : Int) : Int) = Y := ⟨_, rfl⟩
      rw [hX] at g2 L0 hz
      rw [hY] at L0
      have v0 : IntKind.i64.wrap (X - 1) = X - 1 := IntWalk.i64_in _ (by omega)
      have v1 : IntKind.i64.wrap (Y + 1) = Y + 1 := IntWalk.i64_in _ (by omega)
      obtain ⟨X2, hX2⟩ : ∃ y, X - 1 = y := ⟨_, rfl⟩
      obtain ⟨Y2, hY2⟩ : ∃ y, Y + 1 = y := ⟨_, rfl⟩
      have u0 : IntKind.i64.wrap (X - 1) = X2 := v0.trans hX2
      have u1 : IntKind.i64.wrap (Y + 1) = Y2 := v1.trans hY2
      rw [hX2, hY2] at L0
      have HL2 : Hid (Lanes (backS S p) ((cur.setIfInBounds (p * 4 + 2) (.int .i64 X2)).setIfInBounds (p * 4 + 3) (.int .i64 Y2))) := L0
      have HG : Hid (cur[p * 4 + 2]? = some (.int .i64 X) ∧ cur[p * 4 + 3]? = some (.int .i64 Y)) := ⟨by rw [← hX]; exact hl.lanes p hp 2 (by decide), by rw [← hY]; exact hl.lanes p hp 3 (by decide)⟩
      have HL : Hid (LkAt w b S q cap cur bi pi mi si bw pw mw sw) := hl
      clear e1 hk hl ok hp HL0 hX hY v0 v1 hX2 hY2 L0 hsum hd64 hroom hnd k1 k2 k3 k4
      generalize RI.pushS si (p : Int) = si' at *
      go_enter Try.func27, Try.ntmps27
      go_wp2_with (first
        | (go_at_call 42; with_reducible refine HC.mono ?_; rintro e w1 ⟨rfl, rfl⟩)
        | fail)
      go_at_call 43
      with_reducible refine PC.mono ?_
      rintro e w2 ⟨rfl, hstp⟩
      obtain ⟨pi', mi', two, hg, hx⟩ := HL.out.two.stepI hstp
      have T2 : Hid (Two w2 bi pi' mi' si' bw pw mw sw (Xo b q)) := two
      have G2 : Hid (Gr (fp bi pi bw pw (Xo b q)) w w2 (fp bi pi' bw pw (Xo b q))) := hg
      have K1 : Hid (Bk w2 b #[.pointer (some ⟨bw, 0, none⟩), .pointer (some ⟨bi, 0, none⟩), .slice (some ⟨q, 0, none⟩) S.n cap] 67) := show Bk w2 b _ _ from by unfold Bk; rw [hx b (Or.inl rfl)]; exact HL.out.blk
      have K2 : Hid (Bk w2 q cur 70) := show Bk w2 q _ _ from by unfold Bk; rw [hx q (Or.inr rfl)]; exact HL.out.row
      clear two hg hx hstp c1 c2 g2 PC HC
      have g2 : w2.cell? ⟨q, p * 4 + 2, none⟩ = some (.int .i64 X) := by rw [K2.out.cell]; exact HG.out.1
      have g3 : w2.cell? ⟨q, p * 4 + 3, none⟩ = some (.int .i64 Y) := by rw [K2.out.cell]; exact HG.out.2
      have x2 := K2.out.free (p * 4 + 2)
      have x3 := K2.out.free (p * 4 + 3)
      go_wp2
      go_ret
      obtain ⟨k2, k3, k4⟩ := HK.out
      exact ⟨fp bi pi' bw pw (Xo b q), rfl, ⟨HOK.out, q, cap, _, bi, pi', mi', si', bw, pw, mw, sw, LkAt.upd (S := S) (S' := backS S p) (p := p) (i := 2) (j := 3) T2.out HL.out.ne HL.out.cap1 HL.out.cap2 K1.out K2.out rfl rfl rfl HL2.out (k3.trans HL.out.ir) k2 (k4.trans (by rw [HL.out.ix]; rfl)) HL.out.wr HL.out.wl HL.out.wx, rfl⟩, G2.out.trans (gr_upd T2.out _ _ _ _)⟩
  · have e1 : takenF S k = (S, 1) := by unfold takenF; rw [if_neg hk]
    rw [e1]
    rw [Bool.eq_false_iff.2 hk] at HC
    clear e1 hk h
    go_enter Try.func27, Try.ntmps27
    go_wp2_with (go_at_call 42; with_reducible refine HC.mono ?_; rintro e w1 ⟨rfl, rfl⟩)
    go_ret
    exact ⟨F, rfl, HL0.out, Gr.refl _ _⟩
set_option maxHeartbeats 4000000 in
theorem link_credit (h : Lk w b S F) : Calls Try.prog 28 #[.pointer (some ⟨b, 0, none⟩)] w fun e w' => ∃ F', e = .returned (.int .i64 (creditF S).2) ∧ Lk w' b (creditF S).1 F' ∧ Gr F w w' F' := by
  obtain ⟨ok, q, cap, cur, bi, pi, mi, si, bw, pw, mw, sw, hl, rfl⟩ := h
  have PC := RI.ring_pop hl.two.ri
  have hwx := hl.ix
  have c1 := hl.blk.cell 1
  simp only [List.getElem?_toArray, List.getElem?_cons_zero, List.getElem?_cons_succ] at c1
  have HL : Hid (LkAt w b S q cap cur bi pi mi si bw pw mw sw) := hl
  have HO : Hid (Ok S) := ok
  rcases hws : S.bk with _ | ⟨c, t⟩
  · have e1 : creditF S = (S, 8) := by unfold creditF; rw [hws]
    have p2 : RI.peekE si = 8 := by unfold RI.peekE; rw [hwx, hws]; rfl
    rw [e1]
    rw [p2] at PC
    have HW : Hid (si.xs = [] ∧ S.bk = []) := ⟨hwx.trans hws, hws⟩
    clear e1 p2 hwx hws hl ok
    generalize RI.peekV si = pv at *
    go_enter Try.func28, Try.ntmps28
    go_wp2_with (go_at_call 44; with_reducible refine PC.mono ?_; rintro e w1 ⟨rfl, hR, hF⟩)
    go_ret
    obtain ⟨pi', mi', two, hg, hx⟩ := HL.out.two.stepI (RI.Stp.of hR hF)
    have K1 : Bk w1 b #[.pointer (some ⟨bw, 0, none⟩), .pointer (some ⟨bi, 0, none⟩), .slice (some ⟨q, 0, none⟩) S.n cap] 67 := by unfold Bk; rw [hx b (Or.inl rfl)]; exact HL.out.blk
    have K2 : Bk w1 q cur 70 := by unfold Bk; rw [hx q (Or.inr rfl)]; exact HL.out.row
    exact ⟨fp bi pi' bw pw (Xo b q), rfl, ⟨HO.out, q, cap, cur, bi, pi', mi', RI.freeS si, bw, pw, mw, sw, ⟨two, HL.out.ne, HL.out.cap1, HL.out.cap2, K1, K2, HL.out.lanes, RI.freed_room.trans HL.out.ir, RI.freed_laid.trans HL.out.il, by rw [RI.freed_xs, HW.out.1, HW.out.2]; rfl, HL.out.wr, HL.out.wl, HL.out.wx⟩, rfl⟩, hg⟩
  · obtain ⟨p, rfl, hp⟩ := inL_nat (ok.bi c (by rw [hws]; exact List.mem_cons_self ..))
    have e1 : creditF S = ((creditF S).1, 0) := by unfold creditF; rw [hws]
    have p1 : RI.peekV si = (p : Int) := by unfold RI.peekV; rw [hwx, hws]; rfl
    have p2 : RI.peekE si = 0 := by unfold RI.peekE; rw [hwx, hws]; rfl
    have HF5 : Hid ((creditF S).1.n = S.n ∧ (creditF S).1.d = S.d ∧ (creditF S).1.r = S.r ∧ (creditF S).1.ws = S.ws ∧ (creditF S).1.bk = t) := by
      unfold Hid creditF
      rw [hws]
      exact ⟨rfl, rfl, rfl, rfl, rfl⟩
    have L0 := lanes_credit ok hl.lanes hws hp
    have hsum := ok.sum p hp
    have hd64 := ok.d64
    have hco : 1 ≤ com S.bk (p : Int) := by rw [hws, com_cons, if_pos rfl]; omega
    have HOK : Hid (Ok (creditF S).1) := ok.credit
    obtain ⟨X, hX⟩ : ∃ X, S.cr.getD p 0 = X := ⟨_, rfl⟩
    obtain ⟨Y, hY⟩ : ∃ Y : Int, (com S.bk (p : Int) : Int) = Y := ⟨_, rfl⟩
    rw [hX, hY] at L0
    have v0 : IntKind.i64.wrap (Y - 1) = Y - 1 := IntWalk.i64_in _ (by omega)
    have v1 : IntKind.i64.wrap (X + 1) = X + 1 := IntWalk.i64_in _ (by omega)
    obtain ⟨X2, hX2⟩ : ∃ y, X + 1 = y := ⟨_, rfl⟩
    obtain ⟨Y2, hY2⟩ : ∃ y, Y - 1 = y := ⟨_, rfl⟩
    have u0 : IntKind.i64.wrap (Y - 1) = Y2 := v0.trans hY2
    have u1 : IntKind.i64.wrap (X + 1) = X2 := v1.trans hX2
    rw [hX2, hY2] at L0
    have HL2 : Hid (Lanes (creditF S).1 ((cur.setIfInBounds (p * 4 + 3) (.int .i64 Y2)).setIfInBounds (p * 4 + 0) (.int .i64 X2))) := L0
    have HG : Hid (cur[p * 4 + 3]? = some (.int .i64 Y) ∧ cur[p * 4 + 0]? = some (.int .i64 X)) := ⟨by rw [← hY]; exact hl.lanes p hp 3 (by decide), by rw [← hX]; exact hl.lanes p hp 0 (by decide)⟩
    have HW : Hid (si.xs = (p : Int) :: t) := hwx.trans hws
    have i0 : (0 : Int) ≤ (p : Int) := by omega
    have i1 : (p : Int) < (S.n : Int) := by omega
    rw [e1]
    rw [p1, p2] at PC
    clear e1 p1 p2 hwx hws hl ok hX hY v0 v1 hX2 hY2 L0 hsum hd64 hco hp
    generalize (creditF S).1 = S' at *
    go_enter Try.func28, Try.ntmps28
    go_upto_region 4 with (go_at_call 44; with_reducible refine PC.mono ?_; rintro e w1 ⟨rfl, hR, hF⟩)
    obtain ⟨pi', mi', two, hg, hx⟩ := HL.out.two.stepI (RI.Stp.of hR hF)
    have T2 : Hid (Two w1 bi pi' mi' (RI.freeS si) bw pw mw sw (Xo b q)) := two
    have G2 : Hid (Gr (fp bi pi bw pw (Xo b q)) w w1 (fp bi pi' bw pw (Xo b q))) := hg
    have K1 : Hid (Bk w1 b #[.pointer (some ⟨bw, 0, none⟩), .pointer (some ⟨bi, 0, none⟩), .slice (some ⟨q, 0, none⟩) S.n cap] 67) := show Bk w1 b _ _ from by unfold Bk; rw [hx b (Or.inl rfl)]; exact HL.out.blk
    have K2 : Hid (Bk w1 q cur 70) := show Bk w1 q _ _ from by unfold Bk; rw [hx q (Or.inr rfl)]; exact HL.out.row
    clear two hg hx hR hF c1 PC
    have c2 := K1.out.cell 2
    simp only [List.getElem?_toArray, List.getElem?_cons_zero, List.getElem?_cons_succ] at c2
    have g3 : w1.cell? ⟨q, p * 4 + 3, none⟩ = some (.int .i64 Y) := by rw [K2.out.cell]; exact HG.out.1
    have g0 : w1.cell? ⟨q, p * 4, none⟩ = some (.int .i64 X) := by rw [K2.out.cell]; exact HG.out.2
    have x0 := K2.out.free (p * 4)
    have x3 := K2.out.free (p * 4 + 3)
    go_wp2
    go_ret
    obtain ⟨f1, f2, f3, f4, f5⟩ := HF5.out
    exact ⟨fp bi pi' bw pw (Xo b q), rfl, ⟨HOK.out, q, cap, _, bi, pi', mi', _, bw, pw, mw, sw, LkAt.upd (S := S) (S' := S') (p := p) (i := 3) (j := 0) T2.out HL.out.ne HL.out.cap1 HL.out.cap2 K1.out K2.out f1 f2 f3 HL2.out (RI.freed_room.trans HL.out.ir) (RI.freed_laid.trans HL.out.il) (by rw [RI.freed_xs, HW.out, f5]; rfl) HL.out.wr HL.out.wl (HL.out.wx.trans f4.symm), rfl⟩, G2.out.trans (gr_upd T2.out _ _ _ _)⟩
end
end Go.Proofs.Ytihfekcdghmkhaa
