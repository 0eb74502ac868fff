/-
  The program's router: Put, Len, Room, Phase; of one that isn't there. (Written by gen_rcal.py.)
-/
import Derived.Test.YtmmegmonmilkcaaGreatDoorRtEnt
namespace Go.Proofs.YtmmegmonmilkcaaGreatDoor
open Go.RowKit

section
variable {w : World} {b : Nat} {c : G.Cf} {S : RS} {F : Nat → Prop}
/-- A lane of the router's. -/
theorem RtAt.kn {Y : Lay} (h : RtAt w b c S Y) {p l : Int} (hin : inRt S p l = true) : Kn w (Y.kb (ixRt S p l)) (S.ins.getD (ixRt S p l) zks) (Y.fk (ixRt S p l)) := h.at_.kn _ (ix_lt hin)
theorem router_len (h : Rt w b c S F) (p l : Int) : Calls Tryz.prog 35 #[.pointer (some ⟨b, 0, none⟩), .int .i64 p, .int .i64 l] w fun e w' => e = .returned (.int .i64 (if inRt S p l = true then ((S.ins.getD (ixRt S p l) zks).ws.length : Int) else 0)) ∧ Below w.heap.size w w' := by
  obtain ⟨ok, hc, hn, Y, h, rfl⟩ := h
  have EC := entry_any h ok.n8 p l
  by_cases hin : inRt S p l = true
  · rw [if_pos hin]
    rw [if_pos hin] at EC
    have LC : Hid (∀ v, Below w.heap.size w v → Calls Tryz.prog 76 #[.pointer (some ⟨Y.kb (ixRt S p l), 0, none⟩)] v fun e w' => e = .returned (.int .i64 (((S.ins.getD (ixRt S p l) zks).ws.length : Int))) ∧ Below v.heap.size v w') := show _ from fun v hv => lane_len ((h.next hv).kn hin)
    generalize (((S.ins.getD (ixRt S p l) zks).ws.length : Int)) = X at *
    generalize Y.kb (ixRt S p l) = kb at *
    clear h hn hc ok hin
    go_enter Tryz.func35, Tryz.ntmps35
    go_wp2_with fail
    go_at_call 46
    with_reducible refine EC.mono ?_
    rintro e w1 ⟨rfl, b1⟩
    have L1 := LC.out w1 b1
    have B1 : Hid (Below w.heap.size w w1) := b1
    clear EC LC b1
    go_wp2_with fail
    go_at_call 76
    with_reducible refine L1.mono ?_
    rintro e w2 ⟨rfl, b2⟩
    have B2 : Hid (Below w.heap.size w w2) := B1.out.trans (b2.mono B1.out.size)
    clear L1 b2
    go_wp2
    go_ret
    exact ⟨rfl, B2.out⟩
  · rw [if_neg hin]
    rw [if_neg hin] at EC
    clear h hn hc ok hin
    go_enter Tryz.func35, Tryz.ntmps35
    go_wp2_with fail
    go_at_call 46
    with_reducible refine EC.mono ?_
    rintro e w1 ⟨rfl, b1⟩
    have B1 : Hid (Below w.heap.size w w1) := b1
    clear EC b1
    go_wp2_with fail
    go_at_call 76
    with_reducible refine (knil_len w1).mono ?_
    rintro e w2 ⟨rfl, b2⟩
    have B2 : Hid (Below w.heap.size w w2) := B1.out.trans (b2.mono B1.out.size)
    clear b2
    go_wp2
    go_ret
    exact ⟨rfl, B2.out⟩
theorem router_room (h : Rt w b c S F) (p l : Int) : Calls Tryz.prog 36 #[.pointer (some ⟨b, 0, none⟩), .int .i64 p, .int .i64 l] w fun e w' => e = .returned (.int .i64 (if inRt S p l = true then ((S.ins.getD (ixRt S p l) zks).r : Int) - ((S.ins.getD (ixRt S p l) zks).ws.length : Int) else 0)) ∧ Below w.heap.size w w' := by
  obtain ⟨ok, hc, hn, Y, h, rfl⟩ := h
  have EC := entry_any h ok.n8 p l
  by_cases hin : inRt S p l = true
  · rw [if_pos hin]
    rw [if_pos hin] at EC
    have LC : Hid (∀ v, Below w.heap.size w v → Calls Tryz.prog 77 #[.pointer (some ⟨Y.kb (ixRt S p l), 0, none⟩)] v fun e w' => e = .returned (.int .i64 (((S.ins.getD (ixRt S p l) zks).r : Int) - ((S.ins.getD (ixRt S p l) zks).ws.length : Int))) ∧ Below v.heap.size v w') := show _ from fun v hv => lane_room ((h.next hv).kn hin)
    generalize (((S.ins.getD (ixRt S p l) zks).r : Int) - ((S.ins.getD (ixRt S p l) zks).ws.length : Int)) = X at *
    generalize Y.kb (ixRt S p l) = kb at *
    clear h hn hc ok hin
    go_enter Tryz.func36, Tryz.ntmps36
    go_wp2_with fail
    go_at_call 46
    with_reducible refine EC.mono ?_
    rintro e w1 ⟨rfl, b1⟩
    have L1 := LC.out w1 b1
    have B1 : Hid (Below w.heap.size w w1) := b1
    clear EC LC b1
    go_wp2_with fail
    go_at_call 77
    with_reducible refine L1.mono ?_
    rintro e w2 ⟨rfl, b2⟩
    have B2 : Hid (Below w.heap.size w w2) := B1.out.trans (b2.mono B1.out.size)
    clear L1 b2
    go_wp2
    go_ret
    exact ⟨rfl, B2.out⟩
  · rw [if_neg hin]
    rw [if_neg hin] at EC
    clear h hn hc ok hin
    go_enter Tryz.func36, Tryz.ntmps36
    go_wp2_with fail
    go_at_call 46
    with_reducible refine EC.mono ?_
    rintro e w1 ⟨rfl, b1⟩
    have B1 : Hid (Below w.heap.size w w1) := b1
    clear EC b1
    go_wp2_with fail
    go_at_call 77
    with_reducible refine (knil_room w1).mono ?_
    rintro e w2 ⟨rfl, b2⟩
    have B2 : Hid (Below w.heap.size w w2) := B1.out.trans (b2.mono B1.out.size)
    clear b2
    go_wp2
    go_ret
    exact ⟨rfl, B2.out⟩
theorem router_phase (h : Rt w b c S F) (p l : Int) : Calls Tryz.prog 28 #[.pointer (some ⟨b, 0, none⟩), .int .i64 p, .int .i64 l] w fun e w' => e = .returned (.int .i64 (if inRt S p l = true then (S.ins.getD (ixRt S p l) zks).ph else 0)) ∧ Below w.heap.size w w' := by
  obtain ⟨ok, hc, hn, Y, h, rfl⟩ := h
  have EC := entry_any h ok.n8 p l
  by_cases hin : inRt S p l = true
  · rw [if_pos hin]
    rw [if_pos hin] at EC
    have LC : Hid (∀ v, Below w.heap.size w v → Calls Tryz.prog 59 #[.pointer (some ⟨Y.kb (ixRt S p l), 0, none⟩)] v fun e w' => e = .returned (.int .i64 ((S.ins.getD (ixRt S p l) zks).ph)) ∧ Below v.heap.size v w') := show _ from fun v hv => lane_phase ((h.next hv).kn hin)
    generalize ((S.ins.getD (ixRt S p l) zks).ph) = X at *
    generalize Y.kb (ixRt S p l) = kb at *
    clear h hn hc ok hin
    go_enter Tryz.func28, Tryz.ntmps28
    go_wp2_with fail
    go_at_call 46
    with_reducible refine EC.mono ?_
    rintro e w1 ⟨rfl, b1⟩
    have L1 := LC.out w1 b1
    have B1 : Hid (Below w.heap.size w w1) := b1
    clear EC LC b1
    go_wp2_with fail
    go_at_call 59
    with_reducible refine L1.mono ?_
    rintro e w2 ⟨rfl, b2⟩
    have B2 : Hid (Below w.heap.size w w2) := B1.out.trans (b2.mono B1.out.size)
    clear L1 b2
    go_wp2
    go_ret
    exact ⟨rfl, B2.out⟩
  · rw [if_neg hin]
    rw [if_neg hin] at EC
    clear h hn hc ok hin
    go_enter Tryz.func28, Tryz.ntmps28
    go_wp2_with fail
    go_at_call 46
    with_reducible refine EC.mono ?_
    rintro e w1 ⟨rfl, b1⟩
    have B1 : Hid (Below w.heap.size w w1) := b1
    clear EC b1
    go_wp2_with fail
    go_at_call 59
    with_reducible refine (knil_phase w1).mono ?_
    rintro e w2 ⟨rfl, b2⟩
    have B2 : Hid (Below w.heap.size w w2) := B1.out.trans (b2.mono B1.out.size)
    clear b2
    go_wp2
    go_ret
    exact ⟨rfl, B2.out⟩
theorem router_put (h : Rt w b c S F) (p l : Int) (x : Nat) (hx : x < 18446744073709551616) : Calls Tryz.prog 18 #[.pointer (some ⟨b, 0, none⟩), .int .i64 p, .int .i64 l, .int .u64 (x : Int)] w fun e w' => ∃ F', e = .returned (.int .i64 (putRt S p l x).2) ∧ Rt w' b c (putRt S p l x).1 F' ∧ Gr F w w' F' := by
  obtain ⟨ok, hc, hn, Y, h, rfl⟩ := h
  have EC := entry_any h ok.n8 p l
  have okp := ok.put p l hx
  by_cases hin : inRt S p l = true
  · have e1 : putRt S p l x = ({ S with ins := S.ins.set (ixRt S p l) (putK (S.ins.getD (ixRt S p l) zks) x).1 }, (putK (S.ins.getD (ixRt S p l) zks) x).2) := by unfold putRt; rw [if_pos hin]
    rw [e1] at okp ⊢
    rw [if_pos hin] at EC
    have LC : Hid (∀ v, Below w.heap.size w v → Calls Tryz.prog 47 #[.pointer (some ⟨Y.kb (ixRt S p l), 0, none⟩), .int .u64 (x : Int)] v fun e w' => e = .returned (.int .i64 (putK (S.ins.getD (ixRt S p l) zks) x).2) ∧ ∃ F', Rt w' b c { S with ins := S.ins.set (ixRt S p l) (putK (S.ins.getD (ixRt S p l) zks) x).1 } F' ∧ Gr (fpr Y) v w' F') := show _ from fun v hv => by
      refine (lane_put ((h.next hv).kn hin) x hx).mono ?_
      rintro e w' ⟨F', rfl, k1, g1⟩
      obtain ⟨Y', h', g'⟩ := (h.next hv).lane ok.il (ix_lt hin) k1 g1 (lz_put (h.lz _ (ix_lt hin)))
      exact ⟨rfl, _, ⟨okp, hc, hn, Y', h', rfl⟩, g'⟩
    clear h hn hc ok hin e1 okp
    generalize (putK (S.ins.getD (ixRt S p l) zks) x).2 = X at *
    generalize ({ S with ins := S.ins.set (ixRt S p l) (putK (S.ins.getD (ixRt S p l) zks) x).1 } : RS) = S' at *
    generalize Y.kb (ixRt S p l) = kb at *
    go_enter Tryz.func18, Tryz.ntmps18
    go_wp2_with fail
    go_at_call 46
    with_reducible refine EC.mono ?_
    rintro e w1 ⟨rfl, b1⟩
    have L1 := LC.out w1 b1
    have B1 : Hid (Below w.heap.size w w1) := b1
    clear EC LC b1
    go_wp2_with fail
    go_at_call 47
    with_reducible refine L1.mono ?_
    rintro e w2 ⟨rfl, F', k2, g2⟩
    have K2 : Hid (Rt w2 b c S' F' ∧ Gr (fpr Y) w w2 F') := ⟨k2, g2.after B1.out⟩
    clear L1 k2 g2
    go_wp2
    go_ret
    exact ⟨F', rfl, K2.out.1, K2.out.2⟩
  · have e1 : putRt S p l x = (S, 1) := by unfold putRt; rw [if_neg hin]
    rw [e1]
    rw [if_neg hin] at EC
    have HK : Hid (Rt w b c S (fpr Y)) := show Rt _ _ _ _ _ from ⟨ok, hc, hn, Y, h, rfl⟩
    clear h hn hc ok hin e1 okp
    go_enter Tryz.func18, Tryz.ntmps18
    go_wp2_with fail
    go_at_call 46
    with_reducible refine EC.mono ?_
    rintro e w1 ⟨rfl, b1⟩
    have B1 : Hid (Below w.heap.size w w1) := b1
    clear EC b1
    go_wp2_with fail
    go_at_call 47
    with_reducible refine (knil_put x w1).mono ?_
    rintro e w2 ⟨rfl, b2⟩
    have B2 : Hid (Below w.heap.size w w2) := B1.out.trans (b2.mono B1.out.size)
    clear b2
    go_wp2
    go_ret
    exact ⟨fpr Y, rfl, HK.out.next B2.out, Gr.of B2.out⟩
end
/-- Of a lane that isn't there, whatever the word. -/
theorem knil_putI (x : Int) (w : World) : Calls Tryz.prog 47 #[.pointer none, .int .u64 x] w fun e w' => e = .returned (.int .i64 1) ∧ Below w.heap.size w w' := by
  have LC := look_nil w
  have RC := fun v => RU.rgnil_push x v
  have FX := fun p a b c d v => stField0 p a b c d v
  simp only [stn] at LC
  go_enter Tryz.func47, Tryz.ntmps47
  go_wp2_with (first | (go_at_call 83; with_reducible refine LC.mono ?_; rintro e w1 ⟨rfl, hb1⟩) | (go_at_call 84; with_reducible refine (RC _).mono ?_; rintro e w2 ⟨rfl, rfl⟩))
  go_ret
  exact ⟨rfl, hb1⟩
theorem hasPort_nil (p : Int) (w : World) : Calls Tryz.prog 66 #[.pointer none, .int .i64 p] w fun e w' => e = .returned (.bool false) ∧ Below w.heap.size w w' := by
  go_enter Tryz.func66, Tryz.ntmps66
  go_wp2
  go_ret
  exact ⟨rfl, Below.refl _ _⟩
theorem has_nil (p l : Int) (w : World) : Calls Tryz.prog 52 #[.pointer none, .int .i64 p, .int .i64 l] w fun e w' => e = .returned (.bool false) ∧ Below w.heap.size w w' := by
  go_enter Tryz.func52, Tryz.ntmps52
  go_wp2_with fail
  go_at_call 66
  with_reducible refine (hasPort_nil p w).mono ?_
  rintro e w1 ⟨rfl, b1⟩
  have B1 : Hid (Below w.heap.size w w1) := b1
  clear b1
  go_wp2
  go_ret
  exact ⟨rfl, B1.out⟩
theorem entry_nil (p l : Int) (w : World) : Calls Tryz.prog 46 #[.pointer none, .int .i64 p, .int .i64 l] w fun e w' => e = .returned (.pointer none) ∧ Below w.heap.size w w' := by
  go_enter Tryz.func46, Tryz.ntmps46
  go_wp2_with fail
  go_at_call 52
  with_reducible refine (has_nil p l w).mono ?_
  rintro e w1 ⟨rfl, b1⟩
  have B1 : Hid (Below w.heap.size w w1) := b1
  clear b1
  go_wp2
  go_ret
  exact ⟨rfl, B1.out⟩
theorem rnil_put (p l x : Int) (w : World) : Calls Tryz.prog 18 #[.pointer none, .int .i64 p, .int .i64 l, .int .u64 x] w fun e w' => e = .returned (.int .i64 1) ∧ Below w.heap.size w w' := by
  go_enter Tryz.func18, Tryz.ntmps18
  go_wp2_with fail
  go_at_call 46
  with_reducible refine (entry_nil p l w).mono ?_
  rintro e w1 ⟨rfl, b1⟩
  have B1 : Hid (Below w.heap.size w w1) := b1
  clear b1
  go_wp2_with fail
  go_at_call 47
  with_reducible refine (knil_putI x w1).mono ?_
  rintro e w2 ⟨rfl, b2⟩
  have B2 : Hid (Below w.heap.size w w2) := B1.out.trans (b2.mono B1.out.size)
  clear b2
  go_wp2
  go_ret
  exact ⟨rfl, B2.out⟩
theorem rnil_len (p l : Int) (w : World) : Calls Tryz.prog 35 #[.pointer none, .int .i64 p, .int .i64 l] w fun e w' => e = .returned (.int .i64 0) ∧ Below w.heap.size w w' := by
  go_enter Tryz.func35, Tryz.ntmps35
  go_wp2_with fail
  go_at_call 46
  with_reducible refine (entry_nil p l w).mono ?_
  rintro e w1 ⟨rfl, b1⟩
  have B1 : Hid (Below w.heap.size w w1) := b1
  clear b1
  go_wp2_with fail
  go_at_call 76
  with_reducible refine (knil_len w1).mono ?_
  rintro e w2 ⟨rfl, b2⟩
  have B2 : Hid (Below w.heap.size w w2) := B1.out.trans (b2.mono B1.out.size)
  clear b2
  go_wp2
  go_ret
  exact ⟨rfl, B2.out⟩
theorem rnil_room (p l : Int) (w : World) : Calls Tryz.prog 36 #[.pointer none, .int .i64 p, .int .i64 l] w fun e w' => e = .returned (.int .i64 0) ∧ Below w.heap.size w w' := by
  go_enter Tryz.func36, Tryz.ntmps36
  go_wp2_with fail
  go_at_call 46
  with_reducible refine (entry_nil p l w).mono ?_
  rintro e w1 ⟨rfl, b1⟩
  have B1 : Hid (Below w.heap.size w w1) := b1
  clear b1
  go_wp2_with fail
  go_at_call 77
  with_reducible refine (knil_room w1).mono ?_
  rintro e w2 ⟨rfl, b2⟩
  have B2 : Hid (Below w.heap.size w w2) := B1.out.trans (b2.mono B1.out.size)
  clear b2
  go_wp2
  go_ret
  exact ⟨rfl, B2.out⟩
theorem rnil_phase (p l : Int) (w : World) : Calls Tryz.prog 28 #[.pointer none, .int .i64 p, .int .i64 l] w fun e w' => e = .returned (.int .i64 0) ∧ Below w.heap.size w w' := by
  go_enter Tryz.func28, Tryz.ntmps28
  go_wp2_with fail
  go_at_call 46
  with_reducible refine (entry_nil p l w).mono ?_
  rintro e w1 ⟨rfl, b1⟩
  have B1 : Hid (Below w.heap.size w w1) := b1
  clear b1
  go_wp2_with fail
  go_at_call 59
  with_reducible refine (knil_phase w1).mono ?_
  rintro e w2 ⟨rfl, b2⟩
  have B2 : Hid (Below w.heap.size w w2) := B1.out.trans (b2.mono B1.out.size)
  clear b2
  go_wp2
  go_ret
  exact ⟨rfl, B2.out⟩
theorem rnil_idle (w : World) : Calls Tryz.prog 32 #[.pointer none] w fun e w' => e = .returned (.bool true) ∧ Below w.heap.size w w' := by
  go_enter Tryz.func32, Tryz.ntmps32
  go_wp2
  go_ret
  exact ⟨rfl, Below.refl _ _⟩
theorem rnil_owner (p l : Int) (w : World) : Calls Tryz.prog 27 #[.pointer none, .int .i64 p, .int .i64 l] w fun e w' => e = .returned (.tuple #[.int .i64 0, .int .i64 0, .bool false]) ∧ Below w.heap.size w w' := by
  go_enter Tryz.func27, Tryz.ntmps27
  go_wp2_with fail
  go_at_call 52
  with_reducible refine (has_nil p l w).mono ?_
  rintro e w1 ⟨rfl, b1⟩
  have B1 : Hid (Below w.heap.size w w1) := b1
  clear b1
  go_wp2
  exact bodyPost_ret (v := .tuple #[.int .i64 0, .int .i64 0, .bool false]) (by simp [results, Tryz.results27, go_sem]) rfl ⟨rfl, B1.out⟩
theorem rnil_find (p l ch : Int) (w : World) : Calls Tryz.prog 20 #[.pointer none, .int .i64 p, .int .i64 l, .int .i64 ch] w fun e w' => e = .returned (.bool false) ∧ Below w.heap.size w w' := by
  have B0 : Hid (Below w.heap.size w ((w.alloc (.cells #[.pointer none] 28)).alloc (.cells #[.int .i64 ch] 3))) := ((Below.refl _ _).alloc (Nat.le_refl _) _).alloc (by simp) _
  have N0 : Bk ((w.alloc (.cells #[.pointer none] 28)).alloc (.cells #[.int .i64 ch] 3)) w.heap.size #[.pointer none] 28 := (Bk.new w _ _).alloc _
  have c0 := N0.cell 0
  simp only [List.getElem?_toArray, List.getElem?_cons_zero] at c0
  clear N0
  go_enter Tryz.func20, Tryz.ntmps20
  go_upto_region 1 with fail
  generalize (w.alloc (.cells #[.pointer none] 28)).alloc (.cells #[.int .i64 ch] 3) = v at *
  go_wp2_with fail
  go_at_call 52
  with_reducible refine (has_nil p l v).mono ?_
  rintro e w1 ⟨rfl, b1⟩
  have B1 : Hid (Below w.heap.size w w1) := B0.out.trans (b1.mono B0.out.size)
  clear b1
  go_wp2
  go_ret
  exact ⟨rfl, B1.out⟩
theorem rnil_give (p l : Int) (w : World) : Calls Tryz.prog 22 #[.pointer none, .int .i64 p, .int .i64 l] w fun e w' => e = .returned (.bool false) ∧ Below w.heap.size w w' := by
  have B0 : Hid (Below w.heap.size w ((w.alloc (.cells #[.pointer none] 28)).alloc (.cells #[.int .i64 l] 3))) := ((Below.refl _ _).alloc (Nat.le_refl _) _).alloc (by simp) _
  have N0 : Bk ((w.alloc (.cells #[.pointer none] 28)).alloc (.cells #[.int .i64 l] 3)) w.heap.size #[.pointer none] 28 := (Bk.new w _ _).alloc _
  have N1 : Bk ((w.alloc (.cells #[.pointer none] 28)).alloc (.cells #[.int .i64 l] 3)) (w.heap.size + 1) #[.int .i64 l] 3 := by
    have := Bk.new (w.alloc (.cells #[.pointer none] 28)) #[.int .i64 l] 3
    rwa [show (w.alloc (.cells #[.pointer none] 28)).heap.size = w.heap.size + 1 by simp] at this
  have c0 := N0.cell 0
  have c1 := N1.cell 0
  simp only [List.getElem?_toArray, List.getElem?_cons_zero] at c0 c1
  clear N0 N1
  go_enter Tryz.func22, Tryz.ntmps22
  go_upto_region 1 with fail
  generalize (w.alloc (.cells #[.pointer none] 28)).alloc (.cells #[.int .i64 l] 3) = v at *
  go_wp2_with fail
  go_at_call 46
  with_reducible refine (entry_nil p l v).mono ?_
  rintro e w1 ⟨rfl, b1⟩
  have B1 : Hid (Below w.heap.size w w1) := B0.out.trans (b1.mono B0.out.size)
  clear b1
  go_wp2_with fail
  go_at_call 59
  with_reducible refine (knil_phase w1).mono ?_
  rintro e w2 ⟨rfl, b2⟩
  have B2 : Hid (Below w.heap.size w w2) := B1.out.trans (b2.mono B1.out.size)
  clear b2
  go_wp2
  go_ret
  exact ⟨rfl, B2.out⟩
end Go.Proofs.YtmmegmonmilkcaaGreatDoor
