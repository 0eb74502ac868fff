/-
  The program's inbox: a new one; whether one would be told; the first one, told and taken.
-/
import Derived.Test.YtpmkpjnhdehnhaaIFirst
namespace Go.Proofs.Ytpmkpjnhdehnhaa
open Go.RowKit

set_option maxRecDepth 100000 in
set_option maxHeartbeats 4000000 in
theorem inbox_ready {w : World} {b : Nat} {S : IS} {F : Nat → Prop} (h : In w b S F) : Calls Try.prog 27 #[.pointer (some ⟨b, 0, none⟩)] w fun e w' => e = .returned (.bool (rdy S).isSome) ∧ Below w.heap.size w w' := by
  obtain ⟨ok, r, pr, mr, sr, mb, nb, N, hA, rfl⟩ := h
  have K := ilook_blk hA.blk
  have L : Hid (∀ V : World, Below w.heap.size w V → Calls Try.prog 33 #[.agg (sti r mb nb)] V fun e w' => e = .returned (fstV (rdy S)) ∧ Below V.heap.size V w') := show _ from fun V hV => first_any V (hA.next hV).mp (hA.next hV).np ok.rng ok.ap hA.nk hA.nx
  clear hA ok
  generalize rdy S = R at *
  simp only [sti, fstV] at *
  generalize fs R = a1 at *
  generalize fq R = a2 at *
  generalize R.isSome = a3 at *
  go_enter Try.func27, Try.ntmps27
  go_wp2_with (first
    | (go_at_call 30; with_reducible refine K.mono ?_; rintro e w1 ⟨rfl, hb1⟩)
    | (go_at_call 33; with_reducible refine (L.out _ hb1).mono ?_; rintro e w2 ⟨rfl, hb2⟩))
  go_ret
  exact ⟨rfl, (hb1.trans (hb2.mono hb1.size)).alloc (Nat.le_trans hb1.size hb2.size) _⟩
set_option maxRecDepth 100000 in
set_option maxHeartbeats 4000000 in
theorem first_nil (w : World) : Calls Try.prog 33 #[.agg stz] w fun e w' => e = .returned (.tuple #[mkv 0 0, .bool false]) ∧ Below w.heap.size w w' := by
  have B0 : Hid (Below w.heap.size w ((w.alloc (.cells stz 67)).alloc (.cells #[.int .i64 0, .int .i64 0] 72))) := ((Below.refl _ _).alloc (Nat.le_refl _) _).alloc (by simp) _
  have S0 : Hid (Bk ((w.alloc (.cells stz 67)).alloc (.cells #[.int .i64 0, .int .i64 0] 72)) w.heap.size stz 67) := (Bk.new _ _ _).alloc _
  have L0 : Hid (Bk ((w.alloc (.cells stz 67)).alloc (.cells #[.int .i64 0, .int .i64 0] 72)) (w.heap.size + 1) #[.int .i64 0, .int .i64 0] 72) := show _ from by
    have := Bk.new (w.alloc (.cells stz 67)) #[.int .i64 0, .int .i64 0] 72
    rwa [show (w.alloc (.cells stz 67)).heap.size = w.heap.size + 1 by simp] at this
  simp only [stz] at *
  go_enter Try.func33, Try.ntmps33
  go_upto_region 1 with fail
  generalize (w.alloc (.cells #[.pointer none, .map none, .map none] 67)).alloc (.cells #[.int .i64 0, .int .i64 0] 72) = v at *
  obtain ⟨c, hc⟩ : ∃ c, w.heap.size = c := ⟨_, rfl⟩
  have HC : Hid (w.heap.size = c) := hc
  rw [hc] at B0 S0 L0 ⊢
  clear hc
  have hrun0 := run_range_nilMap (P := Try.prog) v 64 _ _ Try.underlying64
  have hnx := fun ty => run_next_nilMap (P := Try.prog) v ty 0 0 #[]
  have c1 := S0.out.cell 1
  simp only [List.getElem?_toArray, List.getElem?_cons_zero, List.getElem?_cons_succ] at c1
  have L1 : Bk (v.alloc (.mapIter none 0 #[] 0)) (c + 1) #[.int .i64 0, .int .i64 0] 72 := L0.out.alloc _
  have B1 : Hid (Below c w (v.alloc (.mapIter none 0 #[] 0))) := B0.out.alloc (by have := L0.out.lt; omega) _
  have l0 := L1.cell 0
  have l1 := L1.cell 1
  have f0 := L1.free 0
  have f1 := L1.free 1
  simp only [List.getElem?_toArray, List.getElem?_cons_zero, List.getElem?_cons_succ] at l0 l1
  have Y := (L1.set 0 (.int .i64 0)).set 1 (.int .i64 0)
  have y0 := Y.cell 0
  have y1 := Y.cell 1
  simp at y0 y1
  clear L0 S0 Y L1
  go_wp2_with (first | (at_range; refine wpList_mrange rfl _ _ rfl rfl hrun0 ?_) | go_in)
  try go_frame
  generalize hv : v.alloc (.mapIter none 0 #[] 0) = v1 at *
  clear hrun0 c1 hv
  generalize v.heap.size = rb at *
  refine wp_loop_rounds 1 ?_
  rw [rounds_succ]
  go_wp2_with (first | (at_next; refine wpList_mnext rfl _ rfl rfl (hnx _) ?_) | go_in)
  refine bodyPost_ret (v := .tuple #[.agg #[.int .i64 0, .int .i64 0], .bool false]) ?_ rfl ?_
  · simp [results, Try.results33, go_sem, y0, y1]
  · exact ⟨rfl, by rw [HC.out]; exact (B1.out.setCell (by show c ≤ c + 1; omega) _).setCell (by show c ≤ c + 1; omega) _⟩
set_option maxRecDepth 100000 in
set_option maxHeartbeats 4000000 in
theorem inil_ready (w : World) : Calls Try.prog 27 #[.pointer none] w fun e w' => e = .returned (.bool false) ∧ Below w.heap.size w w' := by
  have K := ilook_nil w
  have L := first_nil
  simp only [stz, mkv] at *
  go_enter Try.func27, Try.ntmps27
  go_wp2_with (first
    | (go_at_call 30; with_reducible refine K.mono ?_; rintro e w1 ⟨rfl, hb1⟩)
    | (go_at_call 33; with_reducible refine (L _).mono ?_; rintro e w2 ⟨rfl, hb2⟩))
  go_ret
  exact ⟨rfl, (hb1.trans (hb2.mono hb1.size)).alloc (Nat.le_trans hb1.size hb2.size) _⟩
theorem freed_same (s : RP.RingSt) : (RP.freeS s).room = s.room ∧ (RP.freeS s).laid = s.laid ∧ (RP.freeS s).xs = s.xs.tail := by
  unfold RP.freeS
  by_cases h : s.xs = []
  · rw [if_pos h, h]; exact ⟨rfl, rfl, rfl⟩
  · rw [if_neg h]; exact ⟨rfl, rfl, rfl⟩
theorem peek_v {S : IS} {s : RP.RingSt} (h : s.xs = S.L) : RP.peekV s = recvV S := by unfold RP.peekV recvV; rw [h]; rfl
theorem peek_e {S : IS} {s : RP.RingSt} (h : s.xs = S.L) : RP.peekE s = recvE S := by unfold RP.peekE recvE; rw [h]
namespace RP
set_option maxRecDepth 100000 in
set_option maxHeartbeats 4000000 in
theorem rgnil_pop (w : World) : Calls Try.prog 35 #[.pointer none] w fun e w' => e = .returned (.tuple #[pkv zc, .int .i64 1]) ∧ Below w.heap.size w w' := by
  have B0 : Hid (Below w.heap.size w (w.alloc (.cells #[.int .i64 0, .int .i64 0, .int .i64 0, .string ⟨#[]⟩] 33))) := (Below.refl _ _).alloc (Nat.le_refl _) _
  have N0 : Hid (Bk (w.alloc (.cells #[.int .i64 0, .int .i64 0, .int .i64 0, .string ⟨#[]⟩] 33)) w.heap.size #[.int .i64 0, .int .i64 0, .int .i64 0, .string ⟨#[]⟩] 33) := Bk.new _ _ _
  have K := rgnil_peek (w.alloc (.cells #[.int .i64 0, .int .i64 0, .int .i64 0, .string ⟨#[]⟩] 33))
  simp only [zc] at *
  go_enter Try.func35, Try.ntmps35
  go_upto_region 1 with fail
  generalize w.alloc (.cells #[.int .i64 0, .int .i64 0, .int .i64 0, .string ⟨#[]⟩] 33) = v at *
  obtain ⟨c, hc⟩ : ∃ c, w.heap.size = c := ⟨_, rfl⟩
  have HC : Hid (w.heap.size = c) := hc
  rw [hc] at B0 N0 ⊢
  clear hc
  go_upto_region 2 with (go_at_call 36; refine K.mono ?_; rintro e w1 ⟨rfl, hb1⟩)
  have B2 : Hid (Below c w (w1.alloc (.cells #[.int .i64 0, .int .i64 0, .int .i64 0, .string ⟨#[]⟩] 33))) := (B0.out.trans (hb1.mono (by have := N0.out.lt; omega))).alloc (Nat.le_of_lt (N0.out.next hb1).lt) _
  have N2 : Hid (Bk (w1.alloc (.cells #[.int .i64 0, .int .i64 0, .int .i64 0, .string ⟨#[]⟩] 33)) c #[.int .i64 0, .int .i64 0, .int .i64 0, .string ⟨#[]⟩] 33) := (N0.out.next hb1).alloc _
  have M2 := Bk.new w1 #[.int .i64 0, .int .i64 0, .int .i64 0, .string ⟨#[]⟩] 33
  clear hb1 K B0 N0
  generalize w1.alloc (.cells #[.int .i64 0, .int .i64 0, .int .i64 0, .string ⟨#[]⟩] 33) = v2 at *
  generalize w1.heap.size = nb at *
  have N3 := N2.out
  have d0 := N3.cell 0
  have d1 := N3.cell 1
  have d2 := N3.cell 2
  have d3 := N3.cell 3
  simp only [List.getElem?_toArray, List.getElem?_cons_zero, List.getElem?_cons_succ] at d0 d1 d2 d3
  have g0 := N3.free 0
  have g1 := N3.free 1
  have g2 := N3.free 2
  have g3 := N3.free 3
  have m0 := M2.cell 0
  have m1 := M2.cell 1
  have m2 := M2.cell 2
  have m3 := M2.cell 3
  simp only [List.getElem?_toArray, List.getElem?_cons_zero, List.getElem?_cons_succ] at m0 m1 m2 m3
  have Y := ((((N3.set 0 (.int .i64 0)).set 1 (.int .i64 0)).set 2 (.int .i64 0)).set 3 (.string ⟨#[]⟩))
  have y0 := Y.cell 0
  have y1 := Y.cell 1
  have y2 := Y.cell 2
  have y3 := Y.cell 3
  simp at y0 y1 y2 y3
  clear Y N3 M2
  go_wp2
  refine bodyPost_ret (v := .tuple #[.agg #[.int .i64 0, .int .i64 0, .int .i64 0, .string ⟨#[]⟩], .int .i64 1]) (by simp [results, Try.results35, go_sem, y0, y1, y2, y3]; try rfl) rfl ?_
  exact ⟨rfl, by rw [HC.out]; exact (((B2.out.setCell (Nat.le_refl _) _).setCell (Nat.le_refl _) _).setCell (Nat.le_refl _) _).setCell (Nat.le_refl _) _⟩
end RP
set_option maxRecDepth 100000 in
set_option maxHeartbeats 4000000 in
theorem inbox_peek {w : World} {b : Nat} {S : IS} {F : Nat → Prop} (h : In w b S F) : Calls Try.prog 22 #[.pointer (some ⟨b, 0, none⟩)] w fun e w' => e = .returned (.tuple #[pkv (recvV S), .int .i64 (recvE S)]) ∧ Below w.heap.size w w' := by
  obtain ⟨ok, r, pr, mr, sr, mb, nb, N, hA, rfl⟩ := h
  have B0 : Hid (Below w.heap.size w (w.alloc (.cells #[.int .i64 0, .int .i64 0, .int .i64 0, .string ⟨#[]⟩] 33))) := (Below.refl _ _).alloc (Nat.le_refl _) _
  have N0 : Hid (Bk (w.alloc (.cells #[.int .i64 0, .int .i64 0, .int .i64 0, .string ⟨#[]⟩] 33)) w.heap.size #[.int .i64 0, .int .i64 0, .int .i64 0, .string ⟨#[]⟩] 33) := Bk.new _ _ _
  have K0 : Hid (InAt (w.alloc (.cells #[.int .i64 0, .int .i64 0, .int .i64 0, .string ⟨#[]⟩] 33)) b S r pr mr sr mb nb N) := hA.next B0.out
  have nF : Hid (¬ fi b r pr mb nb w.heap.size) := show ¬ fi b r pr mb nb w.heap.size from fun c => Nat.lt_irrefl _ (hA.lt _ c)
  have K := ilook_blk K0.out.blk
  have L : Hid (∀ V : World, InAt V b S r pr mr sr mb nb N → Calls Try.prog 36 #[.pointer (some ⟨r, 0, none⟩)] V fun e w' => e = .returned (.tuple #[pkv (recvV S), .int .i64 (recvE S)]) ∧ Below V.heap.size V w') := show _ from fun V hV => by
    have := RP.ring_peek hV.rg
    rw [peek_v hV.xs, peek_e hV.xs] at this
    exact this
  clear hA ok
  generalize recvV S = p at *
  generalize recvE S = er at *
  obtain ⟨ps, pd, pq, px⟩ := p
  simp only [sti, pkv, pkc] at *
  have f0 := fld0 (.pointer (some ⟨r, 0, none⟩)) (.map (some mb)) (.map (some nb))
  go_enter Try.func22, Try.ntmps22
  go_upto_region 1 with fail
  generalize w.alloc (.cells #[.int .i64 0, .int .i64 0, .int .i64 0, .string ⟨#[]⟩] 33) = v at *
  obtain ⟨c, hc⟩ : ∃ c, w.heap.size = c := ⟨_, rfl⟩
  have HC : Hid (w.heap.size = c) := hc
  rw [hc] at B0 N0 nF ⊢
  clear hc
  go_wp2_with (go_at_call 30; with_reducible refine K.mono ?_; rintro e w1 ⟨rfl, hb1⟩)
  go_at_call 36
  refine (L.out _ (K0.out.next hb1)).mono ?_
  rintro e w2 ⟨rfl, hb2⟩
  have B2 : Hid (Below c w w2) := B0.out.trans ((hb1.trans (hb2.mono hb1.size)).mono (by have := N0.out.lt; omega))
  have N2 := (N0.out.next hb1).next hb2
  have d0 := N2.cell 0
  have d1 := N2.cell 1
  have d2 := N2.cell 2
  have d3 := N2.cell 3
  simp only [List.getElem?_toArray, List.getElem?_cons_zero, List.getElem?_cons_succ] at d0 d1 d2 d3
  have g0 := N2.free 0
  have g1 := N2.free 1
  have g2 := N2.free 2
  have g3 := N2.free 3
  have Y := ((((N2.set 0 (.int .i64 ps)).set 1 (.int .i64 pd)).set 2 (.int .i64 pq)).set 3 (.string px))
  have y0 := Y.cell 0
  have y1 := Y.cell 1
  have y2 := Y.cell 2
  have y3 := Y.cell 3
  simp at y0 y1 y2 y3
  clear Y N2
  go_wp2
  refine bodyPost_ret (v := .tuple #[.agg #[.int .i64 ps, .int .i64 pd, .int .i64 pq, .string px], .int .i64 er]) (by simp [results, Try.results22, go_sem, y0, y1, y2, y3]; try rfl) rfl ?_
  exact ⟨rfl, by rw [HC.out]; exact (((B2.out.setCell (Nat.le_refl _) _).setCell (Nat.le_refl _) _).setCell (Nat.le_refl _) _).setCell (Nat.le_refl _) _⟩
set_option maxRecDepth 100000 in
set_option maxHeartbeats 4000000 in
theorem inbox_recv {w : World} {b : Nat} {S : IS} {F : Nat → Prop} (h : In w b S F) : Calls Try.prog 21 #[.pointer (some ⟨b, 0, none⟩)] w fun e w' => ∃ F', e = .returned (.tuple #[pkv (recvV S), .int .i64 (recvE S)]) ∧ In w' b (recvS S) F' ∧ Gr F w w' F' := by
  obtain ⟨ok, r, pr, mr, sr, mb, nb, N, hA, rfl⟩ := h
  have B0 : Hid (Below w.heap.size w (w.alloc (.cells #[.int .i64 0, .int .i64 0, .int .i64 0, .string ⟨#[]⟩] 33))) := (Below.refl _ _).alloc (Nat.le_refl _) _
  have N0 : Hid (Bk (w.alloc (.cells #[.int .i64 0, .int .i64 0, .int .i64 0, .string ⟨#[]⟩] 33)) w.heap.size #[.int .i64 0, .int .i64 0, .int .i64 0, .string ⟨#[]⟩] 33) := Bk.new _ _ _
  have K0 : Hid (InAt (w.alloc (.cells #[.int .i64 0, .int .i64 0, .int .i64 0, .string ⟨#[]⟩] 33)) b S r pr mr sr mb nb N) := hA.next B0.out
  have nF : Hid (¬ fi b r pr mb nb w.heap.size) := show ¬ fi b r pr mb nb w.heap.size from fun c => Nat.lt_irrefl _ (hA.lt _ c)
  have K := ilook_blk K0.out.blk
  have L : Hid (∀ V : World, InAt V b S r pr mr sr mb nb N → Calls Try.prog 35 #[.pointer (some ⟨r, 0, none⟩)] V fun e w' => e = .returned (.tuple #[pkv (recvV S), .int .i64 (recvE S)]) ∧ RP.RingAt w' r pr mr (RP.freeS sr) ∧ RP.Fr r pr V w') := show _ from fun V hV => by
    have := RP.ring_pop hV.rg
    rw [peek_v hV.xs, peek_e hV.xs] at this
    exact this
  have ST : Hid (∀ v w' : World, InAt v b S r pr mr sr mb nb N → RP.RingAt w' r pr mr (RP.freeS sr) → RP.Fr r pr v w' → ∃ pr' mr', InAt w' b (recvS S) r pr' mr' (RP.freeS sr) mb nb N ∧ Gr (fi b r pr mb nb) v w' (fi b r pr' mb nb)) := show _ from fun v w' hv hR hF =>
    hv.step (L' := S.L.tail) ⟨pr, mr, hR, hF, Or.inl rfl⟩ (freed_same sr).1 ((freed_same sr).2.1.trans hv.laid) (by rw [(freed_same sr).2.2, hv.xs])
  have OK : Hid (IOk (recvS S)) := ok.recv
  clear hA ok
  generalize recvV S = p at *
  generalize recvE S = er at *
  obtain ⟨ps, pd, pq, px⟩ := p
  simp only [sti, pkv, pkc] at *
  have f0 := fld0 (.pointer (some ⟨r, 0, none⟩)) (.map (some mb)) (.map (some nb))
  go_enter Try.func21, Try.ntmps21
  go_upto_region 1 with fail
  generalize w.alloc (.cells #[.int .i64 0, .int .i64 0, .int .i64 0, .string ⟨#[]⟩] 33) = v at *
  obtain ⟨c, hc⟩ : ∃ c, w.heap.size = c := ⟨_, rfl⟩
  have HC : Hid (w.heap.size = c) := hc
  rw [hc] at B0 N0 nF ⊢
  clear hc
  go_wp2_with (go_at_call 30; with_reducible refine K.mono ?_; rintro e w1 ⟨rfl, hb1⟩)
  go_at_call 35
  refine (L.out _ (K0.out.next hb1)).mono ?_
  rintro e w2 ⟨rfl, hR, hF⟩
  obtain ⟨pr', mr', kk, gg⟩ := ST.out _ _ (K0.out.next hb1) hR hF
  have K2 : Hid (In w2 b (recvS S) (fi b r pr' mb nb)) := ⟨OK.out, r, pr', mr', _, mb, nb, N, kk, rfl⟩
  have G2 : Hid (Gr (fi b r pr mb nb) w w2 (fi b r pr' mb nb)) := gg.after (show Below w.heap.size w w1 by rw [HC.out]; exact B0.out.trans (hb1.mono (by have := N0.out.lt; omega)))
  have N2 := (N0.out.next hb1).gr gg nF.out
  have nF2 : Hid (¬ fi b r pr' mb nb c) := gg.off nF.out (N0.out.next hb1).lt
  clear hR hF kk gg hb1 L K ST K0 nF B0 N0
  have d0 := N2.cell 0
  have d1 := N2.cell 1
  have d2 := N2.cell 2
  have d3 := N2.cell 3
  simp only [List.getElem?_toArray, List.getElem?_cons_zero, List.getElem?_cons_succ] at d0 d1 d2 d3
  have g0 := N2.free 0
  have g1 := N2.free 1
  have g2 := N2.free 2
  have g3 := N2.free 3
  have Y := ((((N2.set 0 (.int .i64 ps)).set 1 (.int .i64 pd)).set 2 (.int .i64 pq)).set 3 (.string px))
  have y0 := Y.cell 0
  have y1 := Y.cell 1
  have y2 := Y.cell 2
  have y3 := Y.cell 3
  simp at y0 y1 y2 y3
  clear Y N2
  go_wp2
  refine bodyPost_ret (v := .tuple #[.agg #[.int .i64 ps, .int .i64 pd, .int .i64 pq, .string px], .int .i64 er]) (by simp [results, Try.results21, go_sem, y0, y1, y2, y3]; try rfl) rfl ?_
  exact ⟨_, rfl, (((K2.out.far nF2.out).far nF2.out).far nF2.out).far nF2.out, (((G2.out.setNew (Nat.le_of_eq HC.out)).setNew (Nat.le_of_eq HC.out)).setNew (Nat.le_of_eq HC.out)).setNew (Nat.le_of_eq HC.out)⟩
set_option maxRecDepth 100000 in
set_option maxHeartbeats 4000000 in
theorem inil_peek (w : World) : Calls Try.prog 22 #[.pointer none] w fun e w' => e = .returned (.tuple #[pkv zpk, .int .i64 1]) ∧ Below w.heap.size w w' := by
  have B0 : Hid (Below w.heap.size w (w.alloc (.cells #[.int .i64 0, .int .i64 0, .int .i64 0, .string ⟨#[]⟩] 33))) := (Below.refl _ _).alloc (Nat.le_refl _) _
  have N0 : Hid (Bk (w.alloc (.cells #[.int .i64 0, .int .i64 0, .int .i64 0, .string ⟨#[]⟩] 33)) w.heap.size #[.int .i64 0, .int .i64 0, .int .i64 0, .string ⟨#[]⟩] 33) := Bk.new _ _ _
  have K := ilook_nil (w.alloc (.cells #[.int .i64 0, .int .i64 0, .int .i64 0, .string ⟨#[]⟩] 33))
  have L := RP.rgnil_peek
  simp only [stz, pkv, pkc, RP.zc] at *
  have f0 := fld0 (.pointer none) (.map none) (.map none)
  go_enter Try.func22, Try.ntmps22
  go_upto_region 1 with fail
  generalize w.alloc (.cells #[.int .i64 0, .int .i64 0, .int .i64 0, .string ⟨#[]⟩] 33) = v at *
  obtain ⟨c, hc⟩ : ∃ c, w.heap.size = c := ⟨_, rfl⟩
  have HC : Hid (w.heap.size = c) := hc
  rw [hc] at B0 N0 ⊢
  clear hc
  go_wp2_with (go_at_call 30; with_reducible refine K.mono ?_; rintro e w1 ⟨rfl, hb1⟩)
  go_at_call 36
  refine (L _).mono ?_
  rintro e w2 ⟨rfl, hb2⟩
  have B2 : Hid (Below c w w2) := B0.out.trans ((hb1.trans (hb2.mono hb1.size)).mono (by have := N0.out.lt; omega))
  have N2 := (N0.out.next hb1).next hb2
  have d0 := N2.cell 0
  have d1 := N2.cell 1
  have d2 := N2.cell 2
  have d3 := N2.cell 3
  simp only [List.getElem?_toArray, List.getElem?_cons_zero, List.getElem?_cons_succ] at d0 d1 d2 d3
  have g0 := N2.free 0
  have g1 := N2.free 1
  have g2 := N2.free 2
  have g3 := N2.free 3
  have Y := ((((N2.set 0 (.int .i64 0)).set 1 (.int .i64 0)).set 2 (.int .i64 0)).set 3 (.string ⟨#[]⟩))
  have y0 := Y.cell 0
  have y1 := Y.cell 1
  have y2 := Y.cell 2
  have y3 := Y.cell 3
  simp at y0 y1 y2 y3
  clear Y N2
  go_wp2
  refine bodyPost_ret (v := .tuple #[.agg #[.int .i64 0, .int .i64 0, .int .i64 0, .string ⟨#[]⟩], .int .i64 1]) (by simp [results, Try.results22, go_sem, y0, y1, y2, y3]; try rfl) rfl ?_
  exact ⟨rfl, by rw [HC.out]; exact (((B2.out.setCell (Nat.le_refl _) _).setCell (Nat.le_refl _) _).setCell (Nat.le_refl _) _).setCell (Nat.le_refl _) _⟩
set_option maxRecDepth 100000 in
set_option maxHeartbeats 4000000 in
theorem inil_recv (w : World) : Calls Try.prog 21 #[.pointer none] w fun e w' => e = .returned (.tuple #[pkv zpk, .int .i64 1]) ∧ Below w.heap.size w w' := by
  have B0 : Hid (Below w.heap.size w (w.alloc (.cells #[.int .i64 0, .int .i64 0, .int .i64 0, .string ⟨#[]⟩] 33))) := (Below.refl _ _).alloc (Nat.le_refl _) _
  have N0 : Hid (Bk (w.alloc (.cells #[.int .i64 0, .int .i64 0, .int .i64 0, .string ⟨#[]⟩] 33)) w.heap.size #[.int .i64 0, .int .i64 0, .int .i64 0, .string ⟨#[]⟩] 33) := Bk.new _ _ _
  have K := ilook_nil (w.alloc (.cells #[.int .i64 0, .int .i64 0, .int .i64 0, .string ⟨#[]⟩] 33))
  have L := RP.rgnil_pop
  simp only [stz, pkv, pkc, RP.zc] at *
  have f0 := fld0 (.pointer none) (.map none) (.map none)
  go_enter Try.func21, Try.ntmps21
  go_upto_region 1 with fail
  generalize w.alloc (.cells #[.int .i64 0, .int .i64 0, .int .i64 0, .string ⟨#[]⟩] 33) = v at *
  obtain ⟨c, hc⟩ : ∃ c, w.heap.size = c := ⟨_, rfl⟩
  have HC : Hid (w.heap.size = c) := hc
  rw [hc] at B0 N0 ⊢
  clear hc
  go_wp2_with (go_at_call 30; with_reducible refine K.mono ?_; rintro e w1 ⟨rfl, hb1⟩)
  go_at_call 35
  refine (L _).mono ?_
  rintro e w2 ⟨rfl, hb2⟩
  have B2 : Hid (Below c w w2) := B0.out.trans ((hb1.trans (hb2.mono hb1.size)).mono (by have := N0.out.lt; omega))
  have N2 := (N0.out.next hb1).next hb2
  have d0 := N2.cell 0
  have d1 := N2.cell 1
  have d2 := N2.cell 2
  have d3 := N2.cell 3
  simp only [List.getElem?_toArray, List.getElem?_cons_zero, List.getElem?_cons_succ] at d0 d1 d2 d3
  have g0 := N2.free 0
  have g1 := N2.free 1
  have g2 := N2.free 2
  have g3 := N2.free 3
  have Y := ((((N2.set 0 (.int .i64 0)).set 1 (.int .i64 0)).set 2 (.int .i64 0)).set 3 (.string ⟨#[]⟩))
  have y0 := Y.cell 0
  have y1 := Y.cell 1
  have y2 := Y.cell 2
  have y3 := Y.cell 3
  simp at y0 y1 y2 y3
  clear Y N2
  go_wp2
  refine bodyPost_ret (v := .tuple #[.agg #[.int .i64 0, .int .i64 0, .int .i64 0, .string ⟨#[]⟩], .int .i64 1]) (by simp [results, Try.results21, go_sem, y0, y1, y2, y3]; try rfl) rfl ?_
  exact ⟨rfl, by rw [HC.out]; exact (((B2.out.setCell (Nat.le_refl _) _).setCell (Nat.le_refl _) _).setCell (Nat.le_refl _) _).setCell (Nat.le_refl _) _⟩
end Go.Proofs.Ytpmkpjnhdehnhaa
