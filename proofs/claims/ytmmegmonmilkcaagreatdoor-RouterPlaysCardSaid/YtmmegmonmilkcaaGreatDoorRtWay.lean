/-
 The program's router: the way of a flit, Find. (Written by gen_rway.py.)
-/
import Derived.Test.YtmmegmonmilkcaaGreatDoorRtR
namespace Go.Proofs.YtmmegmonmilkcaaGreatDoor
open Go.RowKit
section
variable {w : World} {b : Nat} {c : G.Cf} {S : RS} {Y : Lay}
set_option maxRecDepth 100000 in
set_option maxHeartbeats 2000000 in
theorem way_any (h : RtAt w b c S Y) (hT : G.Tabs w) (hS : G.Steps w) (f : Fl) (ch9 : Int) (h1 : -9223372036854775808 ≤ ch9) (h2 : ch9 ≤ 9223372036854775807) : Calls Tryz.prog 55 #[.pointer (some ⟨b, 0, none⟩), flv f, .int .i64 ch9] w fun e w' => e = .returned (.int .i64 (telR c S.node f ch9)) ∧ Below w.heap.size w w' := by
 obtain ⟨fk, fs, fd, fq, fl, fm, fc, fx⟩ := f
 have SC := fun v => G.step_any c S.node fd v
 have OC := fun v => G.choose_any c S.node fd ch9 h1 h2 v
 obtain ⟨cw, ch, cl, cd, cr, ci, cb, we, ca⟩ := c
 have B0 : Hid (Below w.heap.size w (w.alloc (.cells (zq3 fk fs fd fq fl fm fc fx) 112))) := (Below.refl _ _).alloc (Nat.le_refl _) _
 have N0 : Hid (Bk (w.alloc (.cells (zq3 fk fs fd fq fl fm fc fx) 112)) w.heap.size (zq3 fk fs fd fq fl fm fc fx) 112) := Bk.new _ _ _
 have K0 : Hid _ := h.next B0.out
 have HT : Hid (G.Tabs (w.alloc (.cells (zq3 fk fs fd fq fl fm fc fx) 112)) ∧ G.Steps (w.alloc (.cells (zq3 fk fs fd fq fl fm fc fx) 112))) := show _ ∧ _ from ⟨hT.next B0.out, hS.next B0.out⟩
 clear h hT hS
 simp only [flv, flc, G.cfv, G.cfc] at *
 have e1 : telR ⟨cw, ch, cl, cd, cr, ci, cb, we, ca⟩ S.node ⟨fk, fs, fd, fq, fl, fm, fc, fx⟩ ch9 = if fc = true then G.stp ⟨cw, ch, cl, cd, cr, ci, cb, we, ca⟩ S.node fd else G.chP (G.opt ⟨cw, ch, cl, cd, cr, ci, cb, we, ca⟩ S.node fd) ch9 := rfl
 rw [e1]
 clear e1 h1 h2
 cases fc with
 | true =>
  simp only [if_true]
  generalize G.stp ⟨cw, ch, cl, cd, cr, ci, cb, we, ca⟩ S.node fd = X at *
  generalize G.stB ⟨cw, ch, cl, cd, cr, ci, cb, we, ca⟩ S.node fd = XB at *
  go_enter Tryz.func55, Tryz.ntmps55
  go_upto_region 1 with fail
  generalize w.alloc (.cells (zq3 fk fs fd fq fl fm true fx) 112) = v at *
  have hsz : Hid (v.heap.size = v.heap.size) := rfl
  obtain ⟨kf, hkf⟩ : ∃ kf, w.heap.size = kf := ⟨_, rfl⟩
  have HKF : Hid (w.heap.size = kf) := hkf
  rw [hkf] at N0 B0 ⊢
  clear hkf hsz
  have HZ : Hid (kf ≤ v.heap.size) := show kf ≤ _ from Nat.le_of_lt N0.out.lt
  obtain ⟨k0, k1, k2, k3, k4, k5, k6, k7, k8, k9⟩ := K0.out.conf
  obtain ⟨d0, d1, d2, d3, d4, d5, d6, d7⟩ := N0.out.flit
  go_upto_region 2 with fail
  have q0 := fun p : Gw v => p.cell K0.out.blk.lt k0
  have q1 := fun p : Gw v => p.cell K0.out.blk.lt k1
  have q2 := fun p : Gw v => p.cell K0.out.blk.lt k2
  have q3 := fun p : Gw v => p.cell K0.out.blk.lt k3
  have q4 := fun p : Gw v => p.cell K0.out.blk.lt k4
  have q5 := fun p : Gw v => p.cell K0.out.blk.lt k5
  have q6 := fun p : Gw v => p.cell K0.out.blk.lt k6
  have q7 := fun p : Gw v => p.cell K0.out.blk.lt k7
  have q8 := fun p : Gw v => p.cell K0.out.blk.lt k8
  have q9 := fun p : Gw v => p.cell K0.out.blk.lt k9
  have f2 := fun p : Gw v => p.cell N0.out.lt d2
  have ID := fun p : Gw v => SC p.v (HT.out.2.next p.le)
  have B1 : Hid (Below kf w v) := B0.out
  clear k0 k1 k2 k3 k4 k5 k6 k7 k8 k9 d0 d1 d2 d3 d4 d5 d6 d7 SC OC N0 K0 HT B0
  go_wp2_with fail
  refine region_gw (by kernel_rfl) (by kernel_rfl) ?_
  repeat (first | go_big_quiet_skip | quiet_step ((go_at_call 94; exact quiet_below (ID _))))
  refine wpQuiet_nil ?_
  intro v8 hw'
  obtain ⟨⟨u8, hb8⟩, hw''⟩ := hw'
  obtain rfl : v8 = u8 := hw''
  have B8 : Hid (Below kf w v8) := B1.out.trans (hb8.mono HZ.out)
  clear q0 q1 q2 q3 q4 q5 q6 q7 q8 q9 f2 ID hb8
  go_wp2
  go_ret
  exact ⟨rfl, by rw [HKF.out]; exact B8.out⟩
 | false =>
  simp only [Bool.false_eq_true, if_false]
  generalize G.chP (G.opt ⟨cw, ch, cl, cd, cr, ci, cb, we, ca⟩ S.node fd) ch9 = X at *
  generalize G.chB (G.opt ⟨cw, ch, cl, cd, cr, ci, cb, we, ca⟩ S.node fd) = XB at *
  go_enter Tryz.func55, Tryz.ntmps55
  go_upto_region 1 with fail
  generalize w.alloc (.cells (zq3 fk fs fd fq fl fm false fx) 112) = v at *
  have hsz : Hid (v.heap.size = v.heap.size) := rfl
  obtain ⟨kf, hkf⟩ : ∃ kf, w.heap.size = kf := ⟨_, rfl⟩
  have HKF : Hid (w.heap.size = kf) := hkf
  rw [hkf] at N0 B0 ⊢
  clear hkf hsz
  have HZ : Hid (kf ≤ v.heap.size) := show kf ≤ _ from Nat.le_of_lt N0.out.lt
  obtain ⟨k0, k1, k2, k3, k4, k5, k6, k7, k8, k9⟩ := K0.out.conf
  obtain ⟨d0, d1, d2, d3, d4, d5, d6, d7⟩ := N0.out.flit
  go_upto_region 4 with fail
  have q0 := fun p : Gw v => p.cell K0.out.blk.lt k0
  have q1 := fun p : Gw v => p.cell K0.out.blk.lt k1
  have q2 := fun p : Gw v => p.cell K0.out.blk.lt k2
  have q3 := fun p : Gw v => p.cell K0.out.blk.lt k3
  have q4 := fun p : Gw v => p.cell K0.out.blk.lt k4
  have q5 := fun p : Gw v => p.cell K0.out.blk.lt k5
  have q6 := fun p : Gw v => p.cell K0.out.blk.lt k6
  have q7 := fun p : Gw v => p.cell K0.out.blk.lt k7
  have q8 := fun p : Gw v => p.cell K0.out.blk.lt k8
  have q9 := fun p : Gw v => p.cell K0.out.blk.lt k9
  have f2 := fun p : Gw v => p.cell N0.out.lt d2
  have ID := fun p : Gw v => OC p.v (HT.out.1.next p.le)
  have B1 : Hid (Below kf w v) := B0.out
  clear k0 k1 k2 k3 k4 k5 k6 k7 k8 k9 d0 d1 d2 d3 d4 d5 d6 d7 SC OC N0 K0 HT B0
  go_wp2_with fail
  refine region_gw (by kernel_rfl) (by kernel_rfl) ?_
  repeat (first | go_big_quiet_skip | quiet_step ((go_at_call 95; exact quiet_below (ID _))))
  refine wpQuiet_nil ?_
  intro v8 hw'
  obtain ⟨⟨u8, hb8⟩, hw''⟩ := hw'
  obtain rfl : v8 = u8 := hw''
  have B8 : Hid (Below kf w v8) := B1.out.trans (hb8.mono HZ.out)
  clear q0 q1 q2 q3 q4 q5 q6 q7 q8 q9 f2 ID hb8
  go_wp2
  go_ret
  exact ⟨rfl, by rw [HKF.out]; exact B8.out⟩
theorem find_ent : Ent 54 := enters_of Tryz.func54 (by kernel_rfl) rfl
set_option maxRecDepth 100000 in
set_option maxHeartbeats 2000000 in
theorem find1_any (h : RtAt w b c S Y) (hT : G.Tabs w) (hS : G.Steps w) (f : Fl) (ch9 : Int) (h1 : -9223372036854775808 ≤ ch9) (h2 : ch9 ≤ 9223372036854775807) (pb cb : Nat) (hp : Bk w pb #[.pointer (some ⟨b, 0, none⟩)] 28) (hq : Bk w cb #[.int .i64 ch9] 3) :
  Calls Tryz.prog 54 #[flv f, .pointer (some ⟨pb, 0, none⟩), .pointer (some ⟨cb, 0, none⟩)] w fun e w' => e = .returned (.int .i64 (telR c S.node f ch9)) ∧ Below w.heap.size w w' := by
 have B0 : Hid (Below w.heap.size w (w.alloc (.cells (flc f) 112))) := (Below.refl _ _).alloc (Nat.le_refl _) _
 have N0 : Hid (Bk (w.alloc (.cells (flc f) 112)) w.heap.size (flc f) 112) := Bk.new _ _ _
 have WC := way_any (h.next B0.out) (hT.next B0.out) (hS.next B0.out) f ch9 h1 h2
 have c0 := (hp.alloc (.cells (flc f) 112)).cell 0
 have c1 := (hq.alloc (.cells (flc f) 112)).cell 0
 simp only [List.getElem?_toArray, List.getElem?_cons_zero] at c0 c1
 generalize telR c S.node f ch9 = X at *
 obtain ⟨fk, fs, fd, fq, fl, fm, fc, fx⟩ := f
 simp only [flv, flc] at *
 clear h hT hS hp hq h1 h2
 go_enter Tryz.func54, Tryz.ntmps54
 go_upto_region 1 with fail
 generalize w.alloc (.cells (zq3 fk fs fd fq fl fm fc fx) 112) = v at *
 obtain ⟨kf, hkf⟩ : ∃ kf, w.heap.size = kf := ⟨_, rfl⟩
 have HKF : Hid (w.heap.size = kf) := hkf
 rw [hkf] at N0 B0 ⊢
 clear hkf
 obtain ⟨d0, d1, d2, d3, d4, d5, d6, d7⟩ := N0.out.flit
 have HZ : Hid (kf ≤ v.heap.size) := show kf ≤ _ from Nat.le_of_lt N0.out.lt
 go_wp2_with fail
 go_at_call 55
 with_reducible refine WC.mono ?_
 rintro e w1 ⟨rfl, b1⟩
 have B1 : Hid (Below kf w w1) := B0.out.trans (b1.mono HZ.out)
 clear WC b1 N0 d0 d1 d2 d3 d4 d5 d6 d7 c0 c1 B0
 go_wp2
 go_ret
 exact ⟨rfl, by rw [HKF.out]; exact B1.out⟩
end
section
variable {w : World} {b : Nat} {c : G.Cf} {S : RS} {F : Nat → Prop}
theorem Rt.node9 (h : Rt w b c S F) : w.cell? ⟨b, 9, none⟩ = some (.int .i64 S.node) := by
 obtain ⟨_, _, _, Y, h, _⟩ := h
 exact h.conf.2.2.2.2.2.2.2.2.2
theorem told_wait (T : Fl → Int → Int) {K : KS} (node ch9 : Int) : findK K node (T (waitF K) ch9) = findK K node (toldRt T K ch9) := by
 by_cases hp : K.ph = 0
 ·cases e : K.ws with
  | nil =>
   unfold findK
   rw [e]
  | cons x t =>
   rw [(wait_of e hp).1]
   unfold toldRt
   rw [e]
 ·have : ∀ P, findK K node P = (K, false) := fun P => by
   unfold findK
   split
   ·rfl
   ·rw [if_neg (fun c => hp c.1)]
  rw [this, this]
set_option maxRecDepth 100000 in
set_option maxHeartbeats 2000000 in
theorem router_find (h : Rt w b c S F) (hT : G.Tabs w) (hS : G.Steps w) (p l ch9 : Int) (h1 : -9223372036854775808 ≤ ch9) (h2 : ch9 ≤ 9223372036854775807) : Calls Tryz.prog 20 (zq11 (some ⟨b, 0, none⟩) p l ch9) w fun e w' => ∃ F', e = .returned (.bool (findRt (telR c S.node) S p l ch9).2) ∧ Rt w' b c (findRt (telR c S.node) S p l ch9).1 F' ∧ Gr F w w' F' := by
 obtain ⟨ok, hc, hn, Y, h, rfl⟩ := h
 have okp := ok.find (telR c S.node) p l ch9
 have B0 : Hid (Below w.heap.size w ((w.alloc (.cells #[.pointer (some ⟨b, 0, none⟩)] 28)).alloc (.cells #[.int .i64 ch9] 3))) := ((Below.refl _ _).alloc (Nat.le_refl _) _).alloc (by simp) _
 have N0 : Hid (Bk ((w.alloc (.cells #[.pointer (some ⟨b, 0, none⟩)] 28)).alloc (.cells #[.int .i64 ch9] 3)) w.heap.size #[.pointer (some ⟨b, 0, none⟩)] 28) := (Bk.new w _ _).alloc _
 have N1 : Hid (Bk ((w.alloc (.cells #[.pointer (some ⟨b, 0, none⟩)] 28)).alloc (.cells #[.int .i64 ch9] 3)) (w.heap.size + 1) #[.int .i64 ch9] 3) := show Bk _ _ _ _ from by
  have := Bk.new (w.alloc (.cells #[.pointer (some ⟨b, 0, none⟩)] 28)) #[.int .i64 ch9] 3
  rwa [show (w.alloc (.cells #[.pointer (some ⟨b, 0, none⟩)] 28)).heap.size = w.heap.size + 1 by simp] at this
 have HT : Hid (G.Tabs ((w.alloc (.cells #[.pointer (some ⟨b, 0, none⟩)] 28)).alloc (.cells #[.int .i64 ch9] 3)) ∧ G.Steps ((w.alloc (.cells #[.pointer (some ⟨b, 0, none⟩)] 28)).alloc (.cells #[.int .i64 ch9] 3))) := show _ ∧ _ from ⟨hT.next B0.out, hS.next B0.out⟩
 have K0 : Hid _ := h.next B0.out
 have HC := has_any K0.out ok.n8 p l
 have hmf : ∀ (fn : Fn) (first cap : Array Value) (w : World), (Instr.makeFunc fn first cap).run Tryz.prog w = .ok (.func fn first cap) w := fun _ _ _ _ => rfl
 by_cases hin : inRt S p l = true
 ·rw [hin] at HC
  have EC : Hid (∀ v, RtAt v b c S Y → Calls Tryz.prog 46 #[.pointer (some ⟨b, 0, none⟩), .int .i64 p, .int .i64 l] v fun e w' => e = .returned (.pointer (some ⟨Y.kb (ixRt S p l), 0, none⟩)) ∧ Below v.heap.size v w') := show _ from fun v hv => by
   have := entry_any hv ok.n8 p l
   rwa [if_pos hin] at this
  obtain ⟨k, hk⟩ : ∃ k, ixRt S p l = k := ⟨_, rfl⟩
  have hkl : k < 5 * S.n := hk ▸ ix_lt hin
  obtain ⟨K, hK⟩ : ∃ K, S.ins.getD k zks = K := ⟨_, rfl⟩
  have e1 : findRt (telR c S.node) S p l ch9 = if (findK K S.node (toldRt (telR c S.node) K ch9)).2 = true then ({ S with ins := S.ins.set k (findK K S.node (toldRt (telR c S.node) K ch9)).1 }, true) else (S, false) := by unfold findRt; rw [if_pos hin, hk, hK]
  rw [hk] at EC
  rw [e1] at okp ⊢
  have LC : Hid (∀ v, RtAt v b c S Y → G.Tabs v → G.Steps v → ∀ pb cb, Bk v pb #[.pointer (some ⟨b, 0, none⟩)] 28 → Bk v cb #[.int .i64 ch9] 3 → Calls Tryz.prog 53 #[.pointer (some ⟨Y.kb k, 0, none⟩), .int .i64 S.node, .func (.func 54) #[] #[.pointer (some ⟨pb, 0, none⟩), .pointer (some ⟨cb, 0, none⟩)]] v fun e w' => e = .returned (.bool (if (findK K S.node (toldRt (telR c S.node) K ch9)).2 = true then ((({ S with ins := S.ins.set k (findK K S.node (toldRt (telR c S.node) K ch9)).1 } : RS), true) : RS × Bool) else (S, false)).2) ∧ ∃ F', Rt w' b c (if (findK K S.node (toldRt (telR c S.node) K ch9)).2 = true then ((({ S with ins := S.ins.set k (findK K S.node (toldRt (telR c S.node) K ch9)).1 } : RS), true) : RS × Bool) else (S, false)).1 F' ∧ Gr (fpr Y) v w' F') := show _ from fun v hv tT tS pb cb hpb hcb => by
   have KN := hv.at_.kn k hkl
   have KN : Kn v (Y.kb k) K (Y.fk k) := by rw [← hK]; exact KN
   have LZ := hv.lz k hkl
   rw [hK] at LZ
   have FC := lane_find_at KN S.node (telR c S.node (waitF K) ch9) 54 #[.pointer (some ⟨pb, 0, none⟩), .pointer (some ⟨cb, 0, none⟩)] ⟨find_ent, fun u hu => find1_any (hv.next hu) (tT.next hu) (tS.next hu) (waitF K) ch9 h1 h2 pb cb (hpb.next hu) (hcb.next hu)⟩
   rw [told_wait (telR c S.node)] at FC
   refine FC.mono ?_
   rintro e w' ⟨F', rfl, k1, g1⟩
   by_cases hy : (findK K S.node (toldRt (telR c S.node) K ch9)).2 = true
   ·rw [if_pos hy] at okp ⊢
    rw [hy]
    obtain ⟨Y', h', g'⟩ := hv.lane ok.il hkl k1 g1 (lz_find LZ)
    exact ⟨rfl, _, ⟨okp, hc, hn, Y', h', rfl⟩, g'⟩
   ·rw [if_neg hy]
    have hs : (findK K S.node (toldRt (telR c S.node) K ch9)).1 = K := by
     rcases find_cases K S.node (toldRt (telR c S.node) K ch9) with ⟨-, e⟩ | ⟨-, -, ⟨-, e⟩ | ⟨-, ⟨-, e⟩ | ⟨-, e⟩⟩⟩ <;> rw [e] at hy ⊢
     ·exact absurd rfl hy
     ·exact absurd rfl hy
    rw [hs] at k1
    obtain ⟨Y', h', g'⟩ := hv.lane (K := K) ok.il hkl k1 g1 LZ
    have e3 : ({ S with ins := S.ins.set k K } : RS) = S := by
     have : S.ins.set k K = S.ins := by
      rw [← hK, List.getD_eq_getElem?_getD, List.getElem?_eq_getElem (by rw [ok.il]; exact hkl)]
      simp
     rw [this]
    rw [e3] at h'
    exact ⟨by simpa using hy, _, ⟨ok, hc, hn, Y', h', rfl⟩, g'⟩
  have eN : ((if (findK K S.node (toldRt (telR c S.node) K ch9)).2 = true then ((({ S with ins := S.ins.set k (findK K S.node (toldRt (telR c S.node) K ch9)).1 } : RS), true) : RS × Bool) else (S, false))).1.node = S.node := by split <;> rfl
  have OF : Hid (¬ fpr Y w.heap.size) := show ¬ fpr Y w.heap.size from fun hf => Nat.lt_irrefl _ (h.at_.lt _ hf)
  clear hk e1 hK
  generalize ((if (findK K S.node (toldRt (telR c S.node) K ch9)).2 = true then ((({ S with ins := S.ins.set k (findK K S.node (toldRt (telR c S.node) K ch9)).1 } : RS), true) : RS × Bool) else (S, false))) = RR at *
  obtain ⟨S', is⟩ := RR
  simp only at *
  have EN : Hid (S'.node = S.node) := eN
  clear eN okp hc hn hin hkl hT hS h h1 h2 ok
  go_enter Tryz.func20, Tryz.ntmps20
  go_upto_region 1 with fail
  generalize ((w.alloc (.cells #[.pointer (some ⟨b, 0, none⟩)] 28)).alloc (.cells #[.int .i64 ch9] 3)) = v at *
  obtain ⟨pb, hpb⟩ : ∃ x, w.heap.size = x := ⟨_, rfl⟩
  have HPB : Hid (w.heap.size = pb) := hpb
  rw [hpb] at N0 N1 OF ⊢
  clear hpb
  obtain ⟨c0, c1⟩ := And.intro (N0.out.cell 0) (N1.out.cell 0)
  simp only [List.getElem?_toArray, List.getElem?_cons_zero] at c0 c1
  go_wp2_with fail
  go_at_call 52
  with_reducible refine HC.mono ?_
  rintro e w1 ⟨rfl, b1⟩
  have M0 : Hid (Bk w1 pb _ _) := N0.out.next b1
  have M1 : Hid (Bk w1 (pb + 1) _ _) := N1.out.next b1
  have K1 : Hid _ := K0.out.next b1
  have B1 : Hid (Below w.heap.size w w1) := B0.out.trans (b1.mono B0.out.size)
  have T1 : Hid (G.Tabs w1 ∧ G.Steps w1) := show _ ∧ _ from ⟨HT.out.1.next b1, HT.out.2.next b1⟩
  clear HC N0 N1 K0 B0 HT b1 c0 c1
  go_wp2_with fail
  have D1 : Below w1.heap.size w1 w1.drew := (Below.refl _ _).drew
  have M2 := M0.out.next D1
  have M3 := M1.out.next D1
  have K2 := K1.out.next D1
  have Q2 := T1.out.1.next D1
  have R2 := T1.out.2.next D1
  have E2 := EC.out _ K2
  have G2 : Gr (fpr Y) w w1.drew (fpr Y) := Gr.of (B1.out.trans (D1.mono B1.out.size))
  have Z2 := And.intro (M2.cell 0) K2.conf.2.2.2.2.2.2.2.2.2
  simp only [List.getElem?_toArray, List.getElem?_cons_zero] at Z2
  go_region_held3 (fun v => v.cell? ⟨pb, 0, none⟩ = some (.pointer (some ⟨b, 0, none⟩)) ∧ v.cell? ⟨b, 9, none⟩ = some (.int .i64 S.node))
   (first | exact Z5 | exact Z4 | exact Z2 | go_keep)
   (first
    | (go_at_call 46; (with_reducible refine E2.mono ?_); rintro e w4 ⟨rfl, b4⟩; have M4 := M2.next b4; have K4 := K2.next b4; have Z4 := And.intro ((M4.cell 0).trans rfl) K4.conf.2.2.2.2.2.2.2.2.2; have L4 := LC.out w4 K4 (Q2.next b4) (R2.next b4) pb (pb + 1) M4 (M3.next b4); have G4 := G2.below b4)
    | (go_at_call 53; (with_reducible refine L4.mono ?_); rintro e w5 ⟨rfl, F', k5, g5⟩; have G5 := G4.trans g5; have Z5 := And.intro (((M4.gr g5 OF.out).cell 0).trans rfl) (k5.node9.trans (congrArg (fun x => some (Value.int .i64 x)) EN.out)))
    | fail)
  all_goals
   have R9 : Hid (Rt w5 b c S' F' ∧ Gr (fpr Y) w w5 F') := show _ ∧ _ from ⟨k5, G5⟩
   clear Z2 Z4 Z5 k5 g5 G5 G4 G2 L4 E2 R2 Q2 K2 M3 M2 D1 M4 K4 b4 M0 M1 K1 T1 B1 EC LC
   first
    | (go_wp2; go_ret; exact ⟨F', rfl, R9.out.1, R9.out.2⟩)
    | (go_ret; exact ⟨F', rfl, R9.out.1, R9.out.2⟩)
 ·have e1 : findRt (telR c S.node) S p l ch9 = (S, false) := by unfold findRt; rw [if_neg hin]
  rw [e1]
  have hf : inRt S p l = false := by simpa using hin
  rw [hf] at HC
  have HK : Hid (Rt w b c S (fpr Y)) := show Rt _ _ _ _ _ from ⟨ok, hc, hn, Y, h, rfl⟩
  clear h hn hc ok hin e1 okp hf HT K0 h1 h2
  go_enter Tryz.func20, Tryz.ntmps20
  go_upto_region 1 with fail
  generalize ((w.alloc (.cells #[.pointer (some ⟨b, 0, none⟩)] 28)).alloc (.cells #[.int .i64 ch9] 3)) = v at *
  obtain ⟨pb, hpb⟩ : ∃ x, w.heap.size = x := ⟨_, rfl⟩
  have HPB : Hid (w.heap.size = pb) := hpb
  rw [hpb] at N0 N1 ⊢
  clear hpb
  obtain ⟨c0, c1⟩ := And.intro (N0.out.cell 0) (N1.out.cell 0)
  simp only [List.getElem?_toArray, List.getElem?_cons_zero] at c0 c1
  go_wp2_with fail
  go_at_call 52
  with_reducible refine HC.mono ?_
  rintro e w1 ⟨rfl, b1⟩
  have B1 : Hid (Below w.heap.size w w1) := B0.out.trans (b1.mono B0.out.size)
  clear HC N0 N1 B0 b1 c0 c1
  go_wp2
  go_ret
  exact ⟨fpr Y, rfl, HK.out.next B1.out, Gr.of B1.out⟩
end
end Go.Proofs.YtmmegmonmilkcaaGreatDoor
