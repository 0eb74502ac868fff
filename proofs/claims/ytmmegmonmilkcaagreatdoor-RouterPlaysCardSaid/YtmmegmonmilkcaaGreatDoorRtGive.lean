/-
 The program's router: which lanes are for several, Give. (Written by gen_rgive.py.)
-/
import Derived.Test.YtmmegmonmilkcaaGreatDoorRtWay
import Derived.Deep.CutRange
namespace Go.Proofs.YtmmegmonmilkcaaGreatDoor
open Go.RowKit
section
variable {w : World} {b : Nat} {c : G.Cf} {S : RS} {Y : Lay}
set_option maxRecDepth 100000 in
theorem sev_any (h : RtAt w b c S Y) (hc : G.chk c = 0) (hn : (S.n : Int) = c.l) (h1 : 1 ≤ S.n) (h8 : S.n ≤ 8) (l : Int) : Calls Tryz.prog 63 #[.pointer (some ⟨b, 0, none⟩), .int .i64 l] w fun e w' => e = .returned (.bool (sevB c l)) ∧ Below w.heap.size w w' := by
 have CC := G.class_any c true w
 have hi := cla_in hc (by omega) (by omega)
 obtain ⟨k0, k1, k2, k3, k4, k5, k6, k7, k8, -⟩ := h.conf
 unfold sevB
 generalize (G.cla c true).1 = x at *
 generalize (G.cla c true).2 = y at *
 obtain ⟨cw, ch, cl, cd, cr, ci, cb, we, ca⟩ := c
 simp only [G.cfv, G.cfc] at *
 obtain ⟨i1, i2, i3, i4⟩ := hi
 have hw : IntKind.i64.wrap (x + y) = x + y := IntWalk.i64_in _ (by omega)
 have hlw : wrap64 (x + y) = x + y := by rw [← IntWalk.i64_left]; exact hw
 clear h hc hn h1 h8
 by_cases c1 : x ≤ l
 ·by_cases c2 : l < x + y
  ·rw [decide_eq_true c1, decide_eq_true c2]
   go_enter Tryz.func63, Tryz.ntmps63
   go_wp2_with (go_at_call 98; with_reducible refine CC.mono ?_; rintro e w1 ⟨rfl, b1⟩)
   go_ret
   exact ⟨rfl, b1⟩
  ·rw [decide_eq_true c1, decide_eq_false c2]
   go_enter Tryz.func63, Tryz.ntmps63
   go_wp2_with (go_at_call 98; with_reducible refine CC.mono ?_; rintro e w1 ⟨rfl, b1⟩)
   go_ret
   exact ⟨by simp [c2], b1⟩
 ·rw [decide_eq_false c1]
  go_enter Tryz.func63, Tryz.ntmps63
  go_wp2_with (go_at_call 98; with_reducible refine CC.mono ?_; rintro e w1 ⟨rfl, b1⟩)
  go_ret
  exact ⟨rfl, b1⟩
theorem give_way1 {w2 w5 wc : World} {p : Value} (X : Below w2.heap.size w2 w5) (e : wc = w5.alloc (.cells #[p] 128)) : w2.heap.size ≤ w5.heap.size ∧ Bk wc w5.heap.size #[p] 128 ∧ Below w2.heap.size w2 wc := by
 subst e
 exact ⟨X.size, Bk.new _ _ _, X.alloc X.size _⟩
theorem give_way2 {w2 w5 wc : World} {p q : Value} (X : Below w2.heap.size w2 w5) (N : Bk w5 w2.heap.size #[q] 128) (e : wc = w5.setCell ⟨w2.heap.size, 0, none⟩ p) : w2.heap.size ≤ w2.heap.size ∧ Bk wc w2.heap.size #[p] 128 ∧ Below w2.heap.size w2 wc := by
 subst e
 refine ⟨Nat.le_refl _, ?_, X.setCell (Nat.le_refl _) _⟩
 have := N.set 0 p
 simpa using this
theorem o3_at (n : Nat) (x : Int) {j : Nat} (h : j < 3) : (o3 n x)[j]? = some (o3 n x)[j]! := by
 have : (o3 n x).length = 3 := by unfold o3; split <;> rfl
 rw [List.getElem?_eq_getElem (by omega), getElem!_pos (o3 n x) j (by omega)]
theorem give_ent : Ent 62 := enters_of Tryz.func62 (by kernel_rfl) rfl
theorem free_as (hc : G.chk c = 0) (hn : (S.n : Int) = c.l) (h1 : 1 ≤ S.n) {q i l : Nat} (hi : i < S.n) (hl : l < S.n) :
  freeRt S q (clsR c l).1 (clsR c l).2 i = (!decide (0 ≤ S.own.getD (q * S.n + i) 0) && (sevB c (i : Int) == sevB c (l : Int))) := by
 rw [sev_class hc (by omega) hn hi hl]
 unfold freeRt
 rw [Bool.and_comm]
 congr 1
 by_cases h : S.own.getD (q * S.n + i) 0 < 0
 ·rw [decide_eq_true h, decide_eq_false (by omega)]; rfl
 ·rw [decide_eq_false h, decide_eq_true (by omega)]; rfl
set_option maxRecDepth 100000 in
set_option maxHeartbeats 2000000 in
theorem give1_any (h : RtAt w b c S Y) (hc : G.chk c = 0) (hn : (S.n : Int) = c.l) (h1 : 1 ≤ S.n) (h8 : S.n ≤ 8) {q i l : Nat} (hq : q < 5) (hi : i < S.n) (hl : l < S.n) (ob pb lb : Nat)
  (ho : Bk w ob #[.pointer (some ⟨b, 10 + q * 4, none⟩)] 128) (hp : Bk w pb #[.pointer (some ⟨b, 0, none⟩)] 28) (hlb : Bk w lb #[.int .i64 (l : Int)] 3) :
  Calls Tryz.prog 62 #[.int .i64 (i : Int), .pointer (some ⟨ob, 0, none⟩), .pointer (some ⟨pb, 0, none⟩), .pointer (some ⟨lb, 0, none⟩)] w fun e w' => e = .returned (.bool (freeRt S q (clsR c l).1 (clsR c l).2 i)) ∧ Below w.heap.size w w' := by
 rw [free_as hc hn h1 hi hl]
 obtain ⟨-, c1, -, -⟩ := h.port hq
 have c2 := (h.at_.ow q hq).cells hi
 have hob := (h.at_.ow q hq).lt
 have IDi := fun p : Gw w => sev_any (h.next p.le) hc hn h1 h8 (i : Int)
 have IDl := fun p : Gw w => sev_any (h.next p.le) hc hn h1 h8 (l : Int)
 have hbb := h.blk.lt
 generalize sevB c (i : Int) = x1 at *
 generalize sevB c (l : Int) = x2 at *
 have c20 := c2 2 (by decide)
 have z0 := fun p : Gw w => p.cell (a := ⟨ob, 0, none⟩) ho.lt ((ho.cell 0).trans rfl)
 have z1 := fun p : Gw w => p.cell (a := ⟨pb, 0, none⟩) hp.lt ((hp.cell 0).trans rfl)
 have z2 := fun p : Gw w => p.cell (a := ⟨lb, 0, none⟩) hlb.lt ((hlb.cell 0).trans rfl)
 have z3 := fun p : Gw w => p.cell hbb c1
 have hin : (i : Int) < (S.n : Int) := by omega
 have hi0 : (0 : Int) ≤ (i : Int) := by omega
 by_cases hx : 0 ≤ S.own.getD (q * S.n + i) 0
 ·rw [decide_eq_true hx]
  have e2 : w.cell? ⟨Y.ob q, i * 3 + 2, none⟩ = some (.bool true) := c20.trans (by unfold o3; rw [if_pos hx]; rfl)
  have z4 := fun p : Gw w => p.cell hob e2
  clear c20 e2 hx c2 c1 h ho hp hlb hn hc h1 h8
  generalize S.n = n at *
  go_enter Tryz.func62, Tryz.ntmps62
  go_wp2_with fail
  refine region_gw (by kernel_rfl) (by kernel_rfl) ?_
  repeat (first | go_big_quiet_skip | quiet_step (fail))
  refine wpQuiet_nil ?_
  intro v8 hw'
  obtain ⟨⟨u8, hb8⟩, hw''⟩ := hw'
  obtain rfl : v8 = u8 := hw''
  go_wp2
  go_ret
  exact ⟨rfl, hb8⟩
 ·rw [decide_eq_false hx]
  have e2 : w.cell? ⟨Y.ob q, i * 3 + 2, none⟩ = some (.bool false) := c20.trans (by unfold o3; rw [if_neg hx]; rfl)
  have z4 := fun p : Gw w => p.cell hob e2
  clear c20 e2 hx c2 c1 h ho hp hlb hn hc h1 h8
  generalize S.n = n at *
  go_enter Tryz.func62, Tryz.ntmps62
  go_wp2_with fail
  refine region_gw (by kernel_rfl) (by kernel_rfl) ?_
  repeat (first | go_big_quiet_skip | quiet_step (first | (go_at_call_of 63 (Value.int .i64 (i : Int)); exact quiet_below (IDi _)) | (go_at_call_of 63 (Value.int .i64 (l : Int)); exact quiet_below (IDl _))))
  refine wpQuiet_nil ?_
  intro v8 hw'
  obtain ⟨⟨u8, hb8⟩, hw''⟩ := hw'
  obtain rfl : v8 = u8 := hw''
  clear IDi IDl z0 z1 z2 z3 z4
  go_wp2
  go_ret
  exact ⟨rfl, hb8⟩
end
section
variable {w : World} {b : Nat} {c : G.Cf} {S : RS} {F : Nat → Prop}
set_option maxRecDepth 100000 in
set_option maxHeartbeats 4000000 in
theorem router_give (h : Rt w b c S F) (p l : Int) : Calls Tryz.prog 22 #[.pointer (some ⟨b, 0, none⟩), .int .i64 p, .int .i64 l] w fun e w' => ∃ F', e = .returned (.bool (giveRt (clsR c) S p l).2) ∧ Rt w' b c (giveRt (clsR c) S p l).1 F' ∧ Gr F w w' F' := by
 obtain ⟨ok, hc, hn, Y, h, rfl⟩ := h
 have okp := ok.give (clsR c) p l
 have B0 : Hid (Below w.heap.size w ((w.alloc (.cells #[.pointer (some ⟨b, 0, none⟩)] 28)).alloc (.cells #[.int .i64 l] 3))) := ((Below.refl _ _).alloc (Nat.le_refl _) _).alloc (by simp) _
 have N0 : Hid (Bk ((w.alloc (.cells #[.pointer (some ⟨b, 0, none⟩)] 28)).alloc (.cells #[.int .i64 l] 3)) w.heap.size #[.pointer (some ⟨b, 0, none⟩)] 28) := (Bk.new w _ _).alloc _
 have N1 : Hid (Bk ((w.alloc (.cells #[.pointer (some ⟨b, 0, none⟩)] 28)).alloc (.cells #[.int .i64 l] 3)) (w.heap.size + 1) #[.int .i64 l] 3) := show Bk _ _ _ _ from by
  have := Bk.new (w.alloc (.cells #[.pointer (some ⟨b, 0, none⟩)] 28)) #[.int .i64 l] 3
  rwa [show (w.alloc (.cells #[.pointer (some ⟨b, 0, none⟩)] 28)).heap.size = w.heap.size + 1 by simp] at this
 have K0 : Hid _ := h.next B0.out
 have EC := entry_any K0.out ok.n8 p l
 have OF : Hid (¬ fpr Y w.heap.size) := show ¬ fpr Y w.heap.size from fun hf => Nat.lt_irrefl _ (h.at_.lt _ hf)
 have hmf : ∀ (fn : Fn) (first cap : Array Value) (w : World), (Instr.makeFunc fn first cap).run Tryz.prog w = .ok (.func fn first cap) w := fun _ _ _ _ => rfl
 by_cases hin : inRt S p l = true
 case neg =>
  have e1 : giveRt (clsR c) S p l = (S, false) := by unfold giveRt; rw [if_neg hin]
  rw [e1]
  rw [if_neg hin] at EC
  have HK : Hid (Rt w b c S (fpr Y)) := show Rt _ _ _ _ _ from ⟨ok, hc, hn, Y, h, rfl⟩
  clear h hn hc ok hin e1 okp
  go_enter Tryz.func22, Tryz.ntmps22
  go_upto_region 1 with fail
  generalize ((w.alloc (.cells #[.pointer (some ⟨b, 0, none⟩)] 28)).alloc (.cells #[.int .i64 l] 3)) = v at *
  obtain ⟨pb, hpb⟩ : ∃ x, w.heap.size = x := ⟨_, rfl⟩
  have HPB : Hid (w.heap.size = pb) := hpb
  rw [hpb] at N0 N1 OF ⊢
  clear hpb
  obtain ⟨c0, c1⟩ := And.intro (N0.out.cell 0) (N1.out.cell 0)
  simp only [List.getElem?_toArray, List.getElem?_cons_zero] at c0 c1
  go_wp2_with fail
  go_at_call 46
  with_reducible refine EC.mono ?_
  rintro e w1 ⟨rfl, b1⟩
  have M0 : Hid (Bk w1 pb _ _) := N0.out.next b1
  have M1 : Hid (Bk w1 (pb + 1) _ _) := N1.out.next b1
  have K1 : Hid _ := K0.out.next b1
  have B1 : Hid (Below w.heap.size w w1) := B0.out.trans (b1.mono B0.out.size)
  clear EC N0 N1 K0 B0 b1 c0 c1
  go_wp2_with fail
  go_at_call 59
  with_reducible refine (knil_phase w1).mono ?_
  rintro e w2 ⟨rfl, b2⟩
  have B2 : Hid (Below w.heap.size w w2) := B1.out.trans (b2.mono B1.out.size)
  clear b2
  go_wp2
  go_ret
  exact ⟨fpr Y, rfl, HK.out.next B2.out, Gr.of B2.out⟩
 rw [if_pos hin] at EC
 obtain ⟨P, L, rfl, rfl, hP, hL, hix⟩ := in_nat hin
 have hkl := ix_lt hin
 obtain ⟨k, hk⟩ : ∃ k, ixRt S (P : Int) (L : Int) = k := ⟨_, rfl⟩
 rw [hk] at EC hkl hix
 have HPL : Hid (k / S.n = P ∧ k % S.n = L) := show _ ∧ _ from div_mod_eq ok.n1 hL hix
 clear hix
 obtain ⟨K, hK⟩ : ∃ K, S.ins.getD k zks = K := ⟨_, rfl⟩
 have KC : Hid (∀ v, RtAt v b c S Y → Kn v (Y.kb k) K (Y.fk k)) := show _ from fun v hv => by rw [← hK]; exact hv.at_.kn k hkl
 by_cases hph : K.ph = 1
 case neg =>
  have e1 : giveRt (clsR c) S (P : Int) (L : Int) = (S, false) := by unfold giveRt; rw [if_pos hin, hk, hK, if_neg hph]
  rw [e1]
  have HK : Hid (Rt w b c S (fpr Y)) := show Rt _ _ _ _ _ from ⟨ok, hc, hn, Y, h, rfl⟩
  have hne : (K.ph != 1) = true := by simpa using hph
  clear h hn hc ok hin e1 okp hP hL hkl
  go_enter Tryz.func22, Tryz.ntmps22
  go_upto_region 1 with fail
  generalize ((w.alloc (.cells #[.pointer (some ⟨b, 0, none⟩)] 28)).alloc (.cells #[.int .i64 (L : Int)] 3)) = v at *
  obtain ⟨pb, hpb⟩ : ∃ x, w.heap.size = x := ⟨_, rfl⟩
  have HPB : Hid (w.heap.size = pb) := hpb
  rw [hpb] at N0 N1 OF ⊢
  clear hpb
  obtain ⟨c0, c1⟩ := And.intro (N0.out.cell 0) (N1.out.cell 0)
  simp only [List.getElem?_toArray, List.getElem?_cons_zero] at c0 c1
  go_wp2_with fail
  go_at_call 46
  with_reducible refine EC.mono ?_
  rintro e w1 ⟨rfl, b1⟩
  have M0 : Hid (Bk w1 pb _ _) := N0.out.next b1
  have M1 : Hid (Bk w1 (pb + 1) _ _) := N1.out.next b1
  have K1 : Hid _ := K0.out.next b1
  have B1 : Hid (Below w.heap.size w w1) := B0.out.trans (b1.mono B0.out.size)
  clear EC N0 N1 K0 B0 b1 c0 c1
  have PC := lane_phase (KC.out w1 K1.out)
  generalize K.ph = ph at *
  clear KC hK
  go_wp2_with fail
  go_at_call 59
  with_reducible refine (PC).mono ?_
  rintro e w2 ⟨rfl, b2⟩
  have B2 : Hid (Below w.heap.size w w2) := B1.out.trans (b2.mono B1.out.size)
  clear b2
  go_wp2
  go_ret
  exact ⟨fpr Y, rfl, HK.out.next B2.out, Gr.of B2.out⟩
 have ip := (ok.ip k hkl)
 rw [hK] at ip
 obtain ⟨Q, hQ⟩ : ∃ Q : Nat, K.port = (Q : Int) := ⟨K.port.toNat, by have := ip.1; omega⟩
 have hQ1 : 1 ≤ Q := by have := ip.2.2 hph; omega
 have hQ4 : Q ≤ 4 := by have := ip.2.1; omega
 have hQn : K.port.toNat = Q := by omega
 have hln : (L : Int).toNat = L := by omega
 have eg : giveRt (clsR c) S (P : Int) (L : Int) = if (ask S.n (S.gv.getD Q 0) (freeRt S Q (clsR c L).1 (clsR c L).2)).2 = true then ({ S with gv := S.gv.set Q (nxtl S.n (S.gv.getD Q 0) (freeRt S Q (clsR c L).1 (clsR c L).2)), own := S.own.set (Q * S.n + (ask S.n (S.gv.getD Q 0) (freeRt S Q (clsR c L).1 (clsR c L).2)).1) (k : Int), ins := S.ins.set k (giveK K ((ask S.n (S.gv.getD Q 0) (freeRt S Q (clsR c L).1 (clsR c L).2)).1 : Int)).1 }, true) else (S, false) := by
  unfold giveRt
  rw [if_pos hin, hk, hK, if_pos hph, hQn, hln]
 rw [eg] at okp ⊢
 have hgt := ok.gt Q (by omega)
 have NX : Hid (∀ v, RtAt v b c S Y → ∀ ob pb lb, Bk v ob #[.pointer (some ⟨b, 10 + Q * 4, none⟩)] 128 → Bk v pb #[.pointer (some ⟨b, 0, none⟩)] 28 → Bk v lb #[.int .i64 (L : Int)] 3 → Calls Tryz.prog 61 #[.pointer (some ⟨Y.gb Q, 0, none⟩), .func (.func 62) #[] #[.pointer (some ⟨ob, 0, none⟩), .pointer (some ⟨pb, 0, none⟩), .pointer (some ⟨lb, 0, none⟩)]] v fun e w' => e = .returned (.tuple #[.int .i64 ((ask S.n (S.gv.getD Q 0) (freeRt S Q (clsR c L).1 (clsR c L).2)).1 : Int), .bool (ask S.n (S.gv.getD Q 0) (freeRt S Q (clsR c L).1 (clsR c L).2)).2]) ∧ RtAt w' b c { S with gv := S.gv.set Q (nxtl S.n (S.gv.getD Q 0) (freeRt S Q (clsR c L).1 (clsR c L).2)) } Y ∧ On (Y.gb Q) v w') := show _ from fun v hv ob pb lb ho hp hlb => by
  refine (FA.next_grows (g := 62) (lb := #[.pointer (some ⟨ob, 0, none⟩), .pointer (some ⟨pb, 0, none⟩), .pointer (some ⟨lb, 0, none⟩)]) (W := freeRt S Q (clsR c L).1 (clsR c L).2) (b := Y.gb Q) (w := v) (fun a u => give_ent a u) ok.n1 (by have := ok.n8; omega) hgt (hv.at_.gf Q (by omega)) (fun u i hi hu => give1_any (hv.next hu) hc hn ok.n1 ok.n8 (by omega) hi hL ob pb lb (ho.next hu) (hp.next hu) (hlb.next hu))).mono ?_
  rintro e w' ⟨rfl, h1, h2⟩
  exact ⟨rfl, hv.gives ok.gl (by omega) h2 h1, h2⟩
 have ham := ask_lt (l := S.gv.getD Q 0) (W := freeRt S Q (clsR c L).1 (clsR c L).2) ok.n1
 have haw : (ask S.n (S.gv.getD Q 0) (freeRt S Q (clsR c L).1 (clsR c L).2)).2 = false → nxtl S.n (S.gv.getD Q 0) (freeRt S Q (clsR c L).1 (clsR c L).2) = S.gv.getD Q 0 := fun e => by unfold nxtl; rw [e]; rfl
 obtain ⟨X, hX⟩ : ∃ X, nxtl S.n (S.gv.getD Q 0) (freeRt S Q (clsR c L).1 (clsR c L).2) = X := ⟨_, rfl⟩
 rw [hX] at NX haw okp ⊢
 generalize hr : ask S.n (S.gv.getD Q 0) (freeRt S Q (clsR c L).1 (clsR c L).2) = r at *
 obtain ⟨i, is⟩ := r
 clear hX eg hr hQn hln
 simp only at *
 have hii : i < S.n := ham
 have PCC : Hid (∀ v, RtAt v b c S Y → Calls Tryz.prog 59 #[.pointer (some ⟨Y.kb k, 0, none⟩)] v fun e w' => e = .returned (.int .i64 1) ∧ Below v.heap.size v w') := show _ from fun v hv => by
  have := lane_phase (KC.out v hv)
  rwa [hph] at this
 have PTC : Hid (∀ v, RtAt v b c S Y → Calls Tryz.prog 60 #[.pointer (some ⟨Y.kb k, 0, none⟩)] v fun e w' => e = .returned (.int .i64 (Q : Int)) ∧ Below v.heap.size v w') := show _ from fun v hv => by
  have := lane_port (KC.out v hv)
  rwa [hQ] at this
 have hq5 : (Q : Int) < 5 := by omega
 have hq0 : (0 : Int) ≤ (Q : Int) := by omega
 have hq55 : Q < 5 := by omega
 have HGB : Hid (Y.tg (Y.gb Q) ≠ 0) := show _ ≠ _ from by rw [h.at_.tG Q hq55]; omega
 have HOB : Hid (Y.tg (Y.ob Q) ≠ 0) := show _ ≠ _ from by rw [h.at_.tO Q hq55]; omega
 have OF9 : Hid (∀ q, fpr Y q → q < w.heap.size) := show _ from h.at_.lt
 clear hQ1 hQ4 hQ ip ham hgt
 cases is with
 | false =>
  have eS : ({ S with gv := S.gv.set Q X } : RS) = S := by
   have : S.gv.set Q X = S.gv := by
    rw [haw rfl, List.getD_eq_getElem?_getD, List.getElem?_eq_getElem (by rw [ok.gl]; exact hq55)]
    simp
   rw [this]
  have HK : Hid (∀ v, RtAt v b c { S with gv := S.gv.set Q X } Y → Rt v b c S (fpr Y)) := show _ from fun v hv => by
   rw [eS] at hv
   exact ⟨ok, hc, hn, Y, hv, rfl⟩
  simp only [Bool.false_eq_true, if_false]
  clear haw eS okp hph h hc hn hK KC HPL
  go_enter Tryz.func22, Tryz.ntmps22
  go_upto_region 1 with fail
  generalize ((w.alloc (.cells #[.pointer (some ⟨b, 0, none⟩)] 28)).alloc (.cells #[.int .i64 (L : Int)] 3)) = v at *
  obtain ⟨pb, hpb⟩ : ∃ x, w.heap.size = x := ⟨_, rfl⟩
  have HPB : Hid (w.heap.size = pb) := hpb
  rw [hpb] at N0 N1 OF ⊢
  clear hpb
  obtain ⟨c0, c1⟩ := And.intro (N0.out.cell 0) (N1.out.cell 0)
  simp only [List.getElem?_toArray, List.getElem?_cons_zero] at c0 c1
  go_wp2_with fail
  go_at_call 46
  with_reducible refine EC.mono ?_
  rintro e w1 ⟨rfl, b1⟩
  have M0 : Hid (Bk w1 pb _ _) := N0.out.next b1
  have M1 : Hid (Bk w1 (pb + 1) _ _) := N1.out.next b1
  have K1 : Hid _ := K0.out.next b1
  have B1 : Hid (Below w.heap.size w w1) := B0.out.trans (b1.mono B0.out.size)
  clear EC N0 N1 K0 B0 b1 c0 c1
  have P1 := PCC.out w1 K1.out
  go_upto_region 4 with (go_at_call 59; with_reducible refine P1.mono ?_; rintro e w2 ⟨rfl, b2⟩)
  have M2 : Hid (Bk w2 pb _ _) := M0.out.next b2
  have M3 : Hid (Bk w2 (pb + 1) _ _) := M1.out.next b2
  have K2 : Hid _ := K1.out.next b2
  have B2 : Hid (Below w.heap.size w w2) := B1.out.trans (b2.mono B1.out.size)
  clear P1 PCC M0 M1 K1 B1 b2
  have PX : ∀ V, Below w2.heap.size w2 V → Calls Tryz.prog 60 #[.pointer (some ⟨Y.kb k, 0, none⟩)] V fun e w' => e = .returned (.int .i64 (Q : Int)) ∧ Below V.heap.size V w' := fun V hV => PTC.out V (K2.out.next hV)
  have T0 : Below w2.heap.size w2 w2.drew := (Below.refl _ _).drew
  have T1 : Below w2.heap.size w2 (w2.alloc (.cells #[.pointer none] 128)).drew := ((Below.refl _ _).alloc (Nat.le_refl _) _).drew
  have N1 : Bk (w2.alloc (.cells #[.pointer none] 128)).drew w2.heap.size #[.pointer none] 128 := Bk.new _ _ _
  have hpl := M2.out.lt
  have z0 := (T0.cell (p := ⟨pb, 0, none⟩) hpl).trans ((M2.out.cell 0).trans rfl)
  have z1 := (T1.cell (p := ⟨pb, 0, none⟩) hpl).trans ((M2.out.cell 0).trans rfl)
  have hpl2 : pb < w2.drew.heap.size := hpl
  have hpl3 : pb < (w2.alloc (.cells #[.pointer none] 128)).drew.heap.size := Nat.lt_of_lt_of_le hpl T1.size
  have hne2 : pb ≠ w2.heap.size := Nat.ne_of_lt hpl
  go_cut [8] from 8 to 23 (fun x wc => ∃ ob, x = .pointer (some ⟨ob, 0, none⟩) ∧ w2.heap.size ≤ ob ∧ Bk wc ob #[.pointer (some ⟨b, 10 + Q * 4, none⟩)] 128 ∧ Below w2.heap.size w2 wc)
  case first =>
   go_region_held3 (fun v => v.cell? ⟨pb, 0, none⟩ = some (.pointer (some ⟨b, 0, none⟩)))
    (first | exact z5 | exact z1 | exact z0 | exact z6 _ | go_keep)
    (first
     | (go_at_call 60; (with_reducible refine (PX _ T0).mono ?_); rintro e w5 ⟨rfl, b5⟩; have z5 := (b5.cell (p := ⟨pb, 0, none⟩) hpl2).trans z0; have X5 := T0.trans b5; have M5 := M2.out.next X5; have z6 := fun o => ((M5.alloc o).cell 0).trans rfl; have R5 := fun (wc : World) (e9 : wc = w5.alloc (.cells #[.pointer (some ⟨b, 10 + Q * 4, none⟩)] 128)) => give_way1 X5 e9)
     | (go_at_call 60; (with_reducible refine (PX _ T1).mono ?_); rintro e w5 ⟨rfl, b5⟩; have z5 := (b5.cell (p := ⟨pb, 0, none⟩) hpl3).trans z1; have N5 := N1.next b5; have y5 := (N5.cell 0).trans rfl; have f5 := N5.free 0; have X5 := T1.trans (b5.mono T1.size); have M5 := M2.out.next X5; have z6 := fun x => ((M5.far (k := w2.heap.size) (j := 0) (x := x) hne2).cell 0).trans rfl; have R5 := fun (wc : World) (e9 : wc = w5.setCell ⟨w2.heap.size, 0, none⟩ (.pointer (some ⟨b, 10 + Q * 4, none⟩))) => give_way2 X5 N5 e9)
     | fail)
   all_goals
    go_wp2_with fail
    go_meet
    exact ⟨_, rfl, R5 _ rfl⟩
  case rest =>
   obtain ⟨ob, rfl, hob, Nc, Bc⟩ := hcut
   have Mc := M2.out.next Bc
   have Md := M3.out.next Bc
   have Kc := K2.out.next Bc
   have NC := NX.out wc Kc ob pb (pb + 1) Nc Mc Md
   have c0 := (Nc.cell 0).trans rfl
   have c2 := (Kc.port hq55).2.2.1
   have G6 : Hid (Gr (fpr Y) w wc (fpr Y)) := Gr.of (B2.out.trans (Bc.mono B2.out.size))
   have HN6 : Hid (Bk wc ob _ _ ∧ Bk wc (pb + 1) _ _ ∧ ¬ fpr Y ob ∧ ¬ fpr Y (pb + 1)) := show _ ∧ _ ∧ _ ∧ _ from ⟨Nc, Md, fun hf => by have := K2.out.at_.lt _ hf; omega, fun hf => by have := OF9.out _ hf; have := HPB.out; omega⟩
   clear M2 M3 K2 B2 PX T0 T1 N1 hpl z0 z1 hpl2 hpl3 hne2 hob Nc Bc Mc Md Kc
   go_wp2_with fail
   go_at_call 61
   with_reducible refine NC.mono ?_
   rintro e w7 ⟨rfl, K7, o7⟩
   have KK : Hid _ := K7
   have G7 : Hid (Gr (fpr Y) w w7 (fpr Y)) := G6.out.trans (RtAt.gr HGB.out o7)
   have HN7 : Hid (Bk w7 ob #[.pointer (some ⟨b, 10 + Q * 4, none⟩)] 128 ∧ Bk w7 (pb + 1) #[.int .i64 (L : Int)] 3) := show _ ∧ _ from ⟨HN6.out.1.on o7 (fun e => HN6.out.2.2.1 (e ▸ HGB.out)), HN6.out.2.1.on o7 (fun e => HN6.out.2.2.2 (e ▸ HGB.out))⟩
   clear NC c0 c2 G6 HN6 NX K7 o7
   go_wp2
   go_ret
   exact ⟨fpr Y, rfl, HK.out w7 KK.out, G7.out⟩
 | true =>
  simp only [if_true] at okp ⊢
  have HCL : Hid (∀ v, RtAt v b c { S with gv := S.gv.set Q X } Y → v.cell? ⟨b, 10 + Q * 4 + 1, none⟩ = some (.slice (some ⟨Y.ob Q, 0, none⟩) S.n S.n) ∧ v.cell? ⟨Y.ob Q, i * 3, none⟩ = some (o3 S.n (S.own.getD (Q * S.n + i) 0))[0]! ∧ v.cell? ⟨Y.ob Q, i * 3 + 1, none⟩ = some (o3 S.n (S.own.getD (Q * S.n + i) 0))[1]! ∧ v.cell? ⟨Y.ob Q, i * 3 + 2, none⟩ = some (o3 S.n (S.own.getD (Q * S.n + i) 0))[2]! ∧ v.frozen? ⟨Y.ob Q, i * 3, none⟩ = false ∧ v.frozen? ⟨Y.ob Q, i * 3 + 1, none⟩ = false ∧ v.frozen? ⟨Y.ob Q, i * 3 + 2, none⟩ = false) := show _ from fun v hv => by
   have hw := hv.at_.ow Q hq55
   exact ⟨(hv.port hq55).2.1, (hw.cells hii 0 (by decide)).trans (o3_at _ _ (by decide)), (hw.cells hii 1 (by decide)).trans (o3_at _ _ (by decide)), (hw.cells hii 2 (by decide)).trans (o3_at _ _ (by decide)), hw.free _, hw.free _, hw.free _⟩
  have GC : Hid (∀ v, RtAt v b c { S with gv := S.gv.set Q X, own := S.own.set (Q * S.n + i) (k : Int) } Y → Calls Tryz.prog 64 #[.pointer (some ⟨Y.kb k, 0, none⟩), .int .i64 (i : Int)] v fun e w' => e = .returned (.bool true) ∧ ∃ F', Rt w' b c { S with gv := S.gv.set Q X, own := S.own.set (Q * S.n + i) (k : Int), ins := S.ins.set k (giveK K (i : Int)).1 } F' ∧ Gr (fpr Y) v w' F') := show _ from fun v hv => by
   have KN : Kn v (Y.kb k) K (Y.fk k) := by rw [← hK]; exact hv.at_.kn k hkl
   have LZ := hv.lz k hkl
   simp only [hK] at LZ
   refine (lane_give KN (i : Int)).mono ?_
   rintro e w' ⟨F', rfl, k1, g1⟩
   obtain ⟨Y', h', g'⟩ := hv.lane ok.il hkl k1 g1 (lz_give (by rw [← hK]; exact fun e9 => (ok.ip k hkl).2.2 e9) LZ)
   exact ⟨by unfold giveK; rw [if_pos hph], _, ⟨okp, hc, hn, Y', h', rfl⟩, g'⟩
  have OC : Hid (∀ v w', RtAt v b c { S with gv := S.gv.set Q X } Y → w' = ((v.setCell ⟨Y.ob Q, i * 3, none⟩ (.int .i64 (P : Int))).setCell ⟨Y.ob Q, i * 3 + 1, none⟩ (.int .i64 (L : Int))).setCell ⟨Y.ob Q, i * 3 + 2, none⟩ (.bool true) → RtAt w' b c { S with gv := S.gv.set Q X, own := S.own.set (Q * S.n + i) (k : Int) } Y ∧ Gr (fpr Y) v w' (fpr Y)) := show _ from fun v w' hv e9 => by
   have o1 : On (Y.ob Q) v w' := by rw [e9]; exact on_three _ _ _ _ _ _ _ _
   refine ⟨hv.owner (x := (k : Int)) ok.ol hq55 hii o1 ?_, RtAt.gr HOB.out o1⟩
   rw [e9]
   exact (hv.at_.ow Q hq55).put hii (k : Int) (by unfold o3; rw [if_pos (by omega), Int.toNat_natCast, HPL.out.1, HPL.out.2])
  clear haw okp hph h hc hn hK KC
  go_enter Tryz.func22, Tryz.ntmps22
  go_upto_region 1 with fail
  generalize ((w.alloc (.cells #[.pointer (some ⟨b, 0, none⟩)] 28)).alloc (.cells #[.int .i64 (L : Int)] 3)) = v at *
  obtain ⟨pb, hpb⟩ : ∃ x, w.heap.size = x := ⟨_, rfl⟩
  have HPB : Hid (w.heap.size = pb) := hpb
  rw [hpb] at N0 N1 OF ⊢
  clear hpb
  obtain ⟨c0, c1⟩ := And.intro (N0.out.cell 0) (N1.out.cell 0)
  simp only [List.getElem?_toArray, List.getElem?_cons_zero] at c0 c1
  go_wp2_with fail
  go_at_call 46
  with_reducible refine EC.mono ?_
  rintro e w1 ⟨rfl, b1⟩
  have M0 : Hid (Bk w1 pb _ _) := N0.out.next b1
  have M1 : Hid (Bk w1 (pb + 1) _ _) := N1.out.next b1
  have K1 : Hid _ := K0.out.next b1
  have B1 : Hid (Below w.heap.size w w1) := B0.out.trans (b1.mono B0.out.size)
  clear EC N0 N1 K0 B0 b1 c0 c1
  have P1 := PCC.out w1 K1.out
  go_upto_region 4 with (go_at_call 59; with_reducible refine P1.mono ?_; rintro e w2 ⟨rfl, b2⟩)
  have M2 : Hid (Bk w2 pb _ _) := M0.out.next b2
  have M3 : Hid (Bk w2 (pb + 1) _ _) := M1.out.next b2
  have K2 : Hid _ := K1.out.next b2
  have B2 : Hid (Below w.heap.size w w2) := B1.out.trans (b2.mono B1.out.size)
  clear P1 PCC M0 M1 K1 B1 b2
  have PX : ∀ V, Below w2.heap.size w2 V → Calls Tryz.prog 60 #[.pointer (some ⟨Y.kb k, 0, none⟩)] V fun e w' => e = .returned (.int .i64 (Q : Int)) ∧ Below V.heap.size V w' := fun V hV => PTC.out V (K2.out.next hV)
  have T0 : Below w2.heap.size w2 w2.drew := (Below.refl _ _).drew
  have T1 : Below w2.heap.size w2 (w2.alloc (.cells #[.pointer none] 128)).drew := ((Below.refl _ _).alloc (Nat.le_refl _) _).drew
  have N1 : Bk (w2.alloc (.cells #[.pointer none] 128)).drew w2.heap.size #[.pointer none] 128 := Bk.new _ _ _
  have hpl := M2.out.lt
  have z0 := (T0.cell (p := ⟨pb, 0, none⟩) hpl).trans ((M2.out.cell 0).trans rfl)
  have z1 := (T1.cell (p := ⟨pb, 0, none⟩) hpl).trans ((M2.out.cell 0).trans rfl)
  have hpl2 : pb < w2.drew.heap.size := hpl
  have hpl3 : pb < (w2.alloc (.cells #[.pointer none] 128)).drew.heap.size := Nat.lt_of_lt_of_le hpl T1.size
  have hne2 : pb ≠ w2.heap.size := Nat.ne_of_lt hpl
  go_cut [8] from 8 to 23 (fun x wc => ∃ ob, x = .pointer (some ⟨ob, 0, none⟩) ∧ w2.heap.size ≤ ob ∧ Bk wc ob #[.pointer (some ⟨b, 10 + Q * 4, none⟩)] 128 ∧ Below w2.heap.size w2 wc)
  case first =>
   go_region_held3 (fun v => v.cell? ⟨pb, 0, none⟩ = some (.pointer (some ⟨b, 0, none⟩)))
    (first | exact z5 | exact z1 | exact z0 | exact z6 _ | go_keep)
    (first
     | (go_at_call 60; (with_reducible refine (PX _ T0).mono ?_); rintro e w5 ⟨rfl, b5⟩; have z5 := (b5.cell (p := ⟨pb, 0, none⟩) hpl2).trans z0; have X5 := T0.trans b5; have M5 := M2.out.next X5; have z6 := fun o => ((M5.alloc o).cell 0).trans rfl; have R5 := fun (wc : World) (e9 : wc = w5.alloc (.cells #[.pointer (some ⟨b, 10 + Q * 4, none⟩)] 128)) => give_way1 X5 e9)
     | (go_at_call 60; (with_reducible refine (PX _ T1).mono ?_); rintro e w5 ⟨rfl, b5⟩; have z5 := (b5.cell (p := ⟨pb, 0, none⟩) hpl3).trans z1; have N5 := N1.next b5; have y5 := (N5.cell 0).trans rfl; have f5 := N5.free 0; have X5 := T1.trans (b5.mono T1.size); have M5 := M2.out.next X5; have z6 := fun x => ((M5.far (k := w2.heap.size) (j := 0) (x := x) hne2).cell 0).trans rfl; have R5 := fun (wc : World) (e9 : wc = w5.setCell ⟨w2.heap.size, 0, none⟩ (.pointer (some ⟨b, 10 + Q * 4, none⟩))) => give_way2 X5 N5 e9)
     | fail)
   all_goals
    go_wp2_with fail
    go_meet
    exact ⟨_, rfl, R5 _ rfl⟩
  case rest =>
   obtain ⟨ob, rfl, hob, Nc, Bc⟩ := hcut
   have Mc := M2.out.next Bc
   have Md := M3.out.next Bc
   have Kc := K2.out.next Bc
   have NC := NX.out wc Kc ob pb (pb + 1) Nc Mc Md
   have c0 := (Nc.cell 0).trans rfl
   have c2 := (Kc.port hq55).2.2.1
   have G6 : Hid (Gr (fpr Y) w wc (fpr Y)) := Gr.of (B2.out.trans (Bc.mono B2.out.size))
   have HN6 : Hid (Bk wc ob _ _ ∧ Bk wc (pb + 1) _ _ ∧ ¬ fpr Y ob ∧ ¬ fpr Y (pb + 1)) := show _ ∧ _ ∧ _ ∧ _ from ⟨Nc, Md, fun hf => by have := K2.out.at_.lt _ hf; omega, fun hf => by have := OF9.out _ hf; have := HPB.out; omega⟩
   clear M2 M3 K2 B2 PX T0 T1 N1 hpl z0 z1 hpl2 hpl3 hne2 hob Nc Bc Mc Md Kc
   go_wp2_with fail
   go_at_call 61
   with_reducible refine NC.mono ?_
   rintro e w7 ⟨rfl, K7, o7⟩
   have KK : Hid _ := K7
   have G7 : Hid (Gr (fpr Y) w w7 (fpr Y)) := G6.out.trans (RtAt.gr HGB.out o7)
   have HN7 : Hid (Bk w7 ob #[.pointer (some ⟨b, 10 + Q * 4, none⟩)] 128 ∧ Bk w7 (pb + 1) #[.int .i64 (L : Int)] 3) := show _ ∧ _ from ⟨HN6.out.1.on o7 (fun e => HN6.out.2.2.1 (e ▸ HGB.out)), HN6.out.2.1.on o7 (fun e => HN6.out.2.2.2 (e ▸ HGB.out))⟩
   clear NC c0 c2 G6 HN6 NX K7 o7
   go_upto_region 8 with fail
   have C7 := HCL.out w7 KK.out
   obtain ⟨c1, d0, d1, d2, z0, z1, z2⟩ := C7
   have c0 := (HN7.out.1.cell 0).trans rfl
   have c3 := (HN7.out.2.cell 0).trans rfl
   have hi0 : (0 : Int) ≤ (i : Int) := by omega
   have hin2 : (i : Int) < (S.n : Int) := by omega
   go_region
   obtain ⟨K8, G8⟩ := OC.out w7 _ KK.out rfl
   generalize ((w7.setCell ⟨Y.ob Q, i * 3, none⟩ (.int .i64 (P : Int))).setCell ⟨Y.ob Q, i * 3 + 1, none⟩ (.int .i64 (L : Int))).setCell ⟨Y.ob Q, i * 3 + 2, none⟩ (.bool true) = w8 at *
   have D8 : Below w8.heap.size w8 w8.drew := (Below.refl _ _).drew
   have C9 := GC.out w8.drew (K8.next D8)
   have G9 : Hid (Gr (fpr Y) w w8.drew (fpr Y)) := (G7.out.trans G8).below D8
   clear GC OC K8 G8 D8 KK G7 HN7 HCL c1 d0 d1 d2 z0 z1 z2 c0 c3
   go_wp2_with fail
   go_at_call 64
   with_reducible refine C9.mono ?_
   rintro e w9 ⟨rfl, F', k9, g9⟩
   have R9 : Hid (Rt w9 b c { S with gv := S.gv.set Q X, own := S.own.set (Q * S.n + i) (k : Int), ins := S.ins.set k (giveK K (i : Int)).1 } F' ∧ Gr (fpr Y) w w9 F') := show _ ∧ _ from ⟨k9, G9.out.trans g9⟩
   clear C9 k9 g9 G9
   go_wp2
   go_ret
   exact ⟨F', rfl, R9.out.1, R9.out.2⟩
end
end Go.Proofs.YtmmegmonmilkcaaGreatDoor
