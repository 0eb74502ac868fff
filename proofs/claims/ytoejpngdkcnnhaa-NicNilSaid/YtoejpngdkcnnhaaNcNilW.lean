/-
  The law of a nic that isn't there: its walk. (Written by gen_nnilw.py.)
-/
import Derived.Test.YtoejpngdkcnnhaaNcLives
import Derived.Test.YtoejpngdkcnnhaaNcNil
import Derived.Test.YtoejpngdkcnnhaaNcFew
import Derived.Test.YtoejpngdkcnnhaaCfgs
namespace Go.Proofs.Ytoejpngdkcnnhaa
open Go.RowKit

theorem is_lanes {c : G.Cf} {nd : Int} (h : G.isN c nd = true) : 1 ≤ c.l ∧ c.l ≤ 8 := by
  unfold G.isN G.nod at h
  by_cases hc : G.chk c = 0
  · have f := G.fits_of hc
    exact ⟨f.l1, f.l2⟩
  · rw [if_neg hc] at h
    simp at h
    omega
theorem Rd.hs8 {w : World} {a : Option Addr} {hs : List (Int × Int)} (h : Rd w a (pc hs)) (k : Nat) : Rd w a (pc (hs.take k)) := fun j v hj => by
  refine h j v ?_
  have e : pc hs = pc (hs.take k) ++ pc (hs.drop k) := by
    unfold pc
    rw [← List.flatMap_append, List.take_append_drop]
  rw [e, List.getElem?_append_left (List.getElem?_eq_some_iff.1 hj).1]
  exact hj
set_option maxRecDepth 100000 in
set_option maxHeartbeats 8000000 in
theorem nnil_law (c : G.Cf) (nd kd pt ln nn s : Int) (cc : Bool) (a : Option Addr) (cap : Nat) (x : ByteArray) (hs : List (Int × Int)) (W : Nat) (w : World) (hc : hs.length ≤ cap) (hm : cap ≤ maxLen) (hx : x.size ≤ maxLen) (hr : Rd w a (pc hs)) :
    Calls Try.prog 4 #[G.cfv c, .int .i64 nd, .agg #[.int .i64 kd, .int .i64 pt, .int .i64 ln, .int .i64 nn, .int .i64 s, .bool cc, .slice a hs.length cap, .string x, .int .u64 (W : Int)]] w fun e w' => e = .returned (.bool true) ∧ Below w.heap.size w w' := by
  have LV := fun v => lives_any v
  have CI : Hid (∀ v, Calls Try.prog 16 #[G.cfv c, .int .i64 nd] v fun e w' => e = .returned (.bool (G.isN c nd)) ∧ Below v.heap.size v w') := show _ from fun v => G.ris_any c nd v
  have CNo : Hid (G.isN c nd = false → ∀ v, Calls Try.prog 7 #[G.cfv c, .int .i64 nd] v fun e w' => e = .returned (.pointer none) ∧ Below v.heap.size v w') := show _ from fun h v => nic_none c nd v h
  have CYes : Hid (G.isN c nd = true → ∀ v, Calls Try.prog 7 #[G.cfv c, .int .i64 nd] v fun e w' => ∃ b, e = .returned (.pointer (some ⟨b, 0, none⟩)) ∧ (∀ u, Below w'.heap.size w' u → Calls Try.prog 17 #[.pointer (some ⟨b, 0, none⟩)] u fun e u' => e = .returned (.int .i64 0) ∧ u = u') ∧ Below v.heap.size v w') := show _ from fun h v => (nic_new c nd v h (is_lanes h)).mono fun e w' ⟨b, ib, F, jb, h1, h2⟩ => ⟨b, h1, fun u hu => left_any (h2.next hu).nb, h2.bl⟩
  have CFW : Hid (∀ v, Calls Try.prog 22 #[pcv s cc (.slice a hs.length cap) x] v fun e w' => ∃ x', e = .returned (pcv s cc (.slice a (hs.take 8).length cap) x') ∧ x'.size ≤ 70 ∧ Below v.heap.size v w') := show _ from fun v => few_any s cc a cap x hs v hc hm hx
  have CBK : Hid (∀ v x', Below w.heap.size w v → Calls Try.prog 21 #[pcv s cc (.slice a (hs.take 8).length cap) x'] v fun e w' => ∃ a' n' cap', e = .returned (pcv s cc (.slice a' n' cap') x') ∧ Below v.heap.size v w') := show _ from fun v x' hv => (nback_any s cc a cap x' (hs.take 8) v (by rw [List.length_take]; omega) ((hr.hs8 8).below hv)).mono fun e w' ⟨a', cap', h1, _, _, h4⟩ => ⟨a', _, cap', h1, h4⟩
  obtain ⟨n, hn⟩ : ∃ n, hs.length = n := ⟨_, rfl⟩
  obtain ⟨m8, hm8⟩ : ∃ n, (hs.take 8).length = n := ⟨_, rfl⟩
  rw [hn] at CFW ⊢
  rw [hm8] at CFW CBK
  clear hc hm hx hr hn hm8
  obtain ⟨is, his⟩ : ∃ z, G.isN c nd = z := ⟨_, rfl⟩
  rw [his] at CI CNo CYes
  clear his
  obtain ⟨cw, ch, cl, cd, cr, ci, cb, we, ca⟩ := c
  simp only [G.cfv, G.cfc, pcv, pcc] at *
  have B0 := two_blocks w #[.int .i64 cw, .int .i64 ch, .int .i64 cl, .int .i64 cd, .int .i64 cr, .int .i64 ci, .int .i64 cb, .bool we, .bool ca] #[.int .i64 kd, .int .i64 pt, .int .i64 ln, .int .i64 nn, .int .i64 s, .bool cc, .slice a n cap, .string x, .int .u64 (W : Int)] 23 52
  have HBW : Hid (Below w.heap.size w ((w.alloc (.cells #[.int .i64 cw, .int .i64 ch, .int .i64 cl, .int .i64 cd, .int .i64 cr, .int .i64 ci, .int .i64 cb, .bool we, .bool ca] 23)).alloc (.cells #[.int .i64 kd, .int .i64 pt, .int .i64 ln, .int .i64 nn, .int .i64 s, .bool cc, .slice a n cap, .string x, .int .u64 (W : Int)] 52))) := ((Below.refl _ _).alloc (Nat.le_refl _) _).alloc (by simp) _
  go_enter Try.func4, Try.ntmps4
  go_upto_region 1 with fail
  generalize (w.alloc (.cells #[.int .i64 cw, .int .i64 ch, .int .i64 cl, .int .i64 cd, .int .i64 cr, .int .i64 ci, .int .i64 cb, .bool we, .bool ca] 23)).alloc (.cells #[.int .i64 kd, .int .i64 pt, .int .i64 ln, .int .i64 nn, .int .i64 s, .bool cc, .slice a n cap, .string x, .int .u64 (W : Int)] 52) = v at *
  obtain ⟨A, hA⟩ : ∃ r, w.heap.size = r := ⟨_, rfl⟩
  have HA : Hid (w.heap.size = A) := hA
  have HK : Hid (∀ u, Below v.heap.size v u → Bk u A #[.int .i64 cw, .int .i64 ch, .int .i64 cl, .int .i64 cd, .int .i64 cr, .int .i64 ci, .int .i64 cb, .bool we, .bool ca] 23 ∧ Bk u (A + 1) #[.int .i64 kd, .int .i64 pt, .int .i64 ln, .int .i64 nn, .int .i64 s, .bool cc, .slice a n cap, .string x, .int .u64 (W : Int)] 52) := show _ from fun u hu => by
    rw [← hA]
    exact ⟨B0.out.1.next hu, B0.out.2.1.next hu⟩
  have HW : Hid (∀ u, Below v.heap.size v u → Below w.heap.size w u) := show _ from fun u hu => HBW.out.trans (hu.mono HBW.out.size)
  rw [hA]
  clear hA B0 HBW
  have BL0 : Hid (Below v.heap.size v v) := Below.refl _ _
  have L0 := LV v
  clear LV
  go_upto_region 3 with (go_at_call 5; with_reducible refine L0.mono ?_; rintro e v1 ⟨rfl, b1⟩)
  have BL1 : Hid (Below v.heap.size v v1) := b1
  clear b1 L0 BL0
  obtain ⟨k0, k1, k2, k3, k4, k5, k6, k7, k8⟩ := ncfg (HK.out _ BL1.out).1
  cases is
  case true =>
    have CN := CYes.out rfl v1
    clear CYes CNo
    go_upto_region 4 with (go_at_call 7; with_reducible refine CN.mono ?_; rintro e v2 ⟨b, rfl, x2, b2⟩)
    have BL2 : Hid (Below v.heap.size v v2) := BL1.out.trans (b2.mono BL1.out.size)
    clear BL1 b2 CN k0 k1 k2 k3 k4 k5 k6 k7 k8
    obtain ⟨k0, k1, k2, k3, k4, k5, k6, k7, k8⟩ := ncfg (HK.out _ BL2.out).1
    have X2 : Hid (∀ u, Below v2.heap.size v2 u → Calls Try.prog 17 #[.pointer (some ⟨b, 0, none⟩)] u fun e u' => e = .returned (.int .i64 0) ∧ u = u') := x2
    have CI2 := CI.out v2
    clear x2 CI
    go_wp2_with fail
    go_at_call 16
    with_reducible refine CI2.mono ?_
    rintro e v3 ⟨rfl, b3⟩
    have CL := X2.out v3 b3
    have BL3 : Hid (Below v.heap.size v v3) := BL2.out.trans (b3.mono BL2.out.size)
    clear BL2 b3 X2 CI2 k0 k1 k2 k3 k4 k5 k6 k7 k8
    go_wp2_with (go_at_call 17; with_reducible refine CL.mono ?_; rintro e v4 ⟨rfl, rfl⟩)
    go_ret
    exact ⟨rfl, HW.out _ BL3.out⟩
  case false =>
    have CN := CNo.out rfl v1
    clear CYes CNo
    go_upto_region 6 with (go_at_call 7; with_reducible refine CN.mono ?_; rintro e v2 ⟨rfl, b2⟩)
    have BL2 : Hid (Below v.heap.size v v2) := BL1.out.trans (b2.mono BL1.out.size)
    clear BL1 b2 CN k0 k1 k2 k3 k4 k5 k6 k7 k8
    have C1 := nl_first v2
    simp only [zcell] at C1
    go_upto_region 7 with (go_at_call 18; with_reducible refine C1.mono ?_; rintro e v3 ⟨rfl, b3⟩)
    have BL3 : Hid (Below v.heap.size v (v3.alloc (.cells #[.int .i64 0, .int .u64 0] 55))) := (BL2.out.trans (b3.mono BL2.out.size)).alloc (Nat.le_trans BL2.out.size b3.size) _
    clear BL2 b3 C1
    generalize v3.alloc (.cells #[.int .i64 0, .int .u64 0] 55) = v4 at *
    generalize v3.heap.size = q3 at *
    have C1 := nl_put v4
    simp only [zcell] at C1
    go_upto_region 8 with (go_at_call 19; with_reducible refine C1.mono ?_; rintro e v5 ⟨rfl, b5⟩)
    have BL5 : Hid (Below v.heap.size v (v5.alloc (.cells #[.int .i64 0, .int .u64 0] 55))) := (BL3.out.trans (b5.mono BL3.out.size)).alloc (Nat.le_trans BL3.out.size b5.size) _
    clear BL3 b5 C1
    generalize v5.alloc (.cells #[.int .i64 0, .int .u64 0] 55) = v6 at *
    generalize v5.heap.size = q5 at *
    have C1 := nl_recv v6
    go_upto_region 9 with (go_at_call 14; with_reducible refine C1.mono ?_; rintro e v7 ⟨rfl, b7⟩)
    have BL7 : Hid (Below v.heap.size v (v7.alloc (.cells #[.int .i64 0, .int .i64 0, .int .i64 0, .string ⟨#[]⟩] 46))) := (BL5.out.trans (b7.mono BL5.out.size)).alloc (Nat.le_trans BL5.out.size b7.size) _
    clear BL5 b7 C1
    generalize v7.alloc (.cells #[.int .i64 0, .int .i64 0, .int .i64 0, .string ⟨#[]⟩] 46) = u0 at *
    generalize v7.heap.size = q7 at *
    have U0 : Hid (Below v.heap.size v u0) := BL7.out
    clear BL7
    obtain ⟨k0, k1, k2, k3, k4, k5, k6, k7, k8⟩ := ncfg (HK.out _ U0.out).1
    have C1 := CI.out u0
    clear CI
    go_wp2_with fail
    go_at_call 16
    with_reducible refine C1.mono ?_
    rintro e u1 ⟨rfl, b9⟩
    have U1 : Hid (Below v.heap.size v u1) := U0.out.trans (b9.mono U0.out.size)
    clear U0 b9 C1 k0 k1 k2 k3 k4 k5 k6 k7 k8
    have dd := (HK.out _ U1.out).2
    have d1 := (dd.cell 1).trans rfl
    have d2 := (dd.cell 2).trans rfl
    have d4 := (dd.cell 4).trans rfl
    have d5 := (dd.cell 5).trans rfl
    have d6 := (dd.cell 6).trans rfl
    have d7 := (dd.cell 7).trans rfl
    have d8 := (dd.cell 8).trans rfl
    simp only [List.getElem?_toArray, List.getElem?_cons_zero, List.getElem?_cons_succ] at d1 d2 d4 d5 d6 d7 d8
    clear dd
    have C1 := CFW.out u1
    clear CFW
    go_wp2_with fail
    go_at_call 22
    with_reducible refine C1.mono ?_
    rintro e u2 ⟨x9, rfl, hx9, b9⟩
    have U2 : Hid (Below v.heap.size v u2) := U1.out.trans (b9.mono U1.out.size)
    clear U1 b9 C1 d1 d2 d4 d5 d6 d7 d8
    have dd := (HK.out _ U2.out).2
    have d1 := (dd.cell 1).trans rfl
    have d2 := (dd.cell 2).trans rfl
    have d4 := (dd.cell 4).trans rfl
    have d5 := (dd.cell 5).trans rfl
    have d6 := (dd.cell 6).trans rfl
    have d7 := (dd.cell 7).trans rfl
    have d8 := (dd.cell 8).trans rfl
    simp only [List.getElem?_toArray, List.getElem?_cons_zero, List.getElem?_cons_succ] at d1 d2 d4 d5 d6 d7 d8
    clear dd
    have C1 := CBK.out u2 x9 (HW.out _ U2.out)
    clear CBK
    go_wp2_with fail
    go_at_call 21
    with_reducible refine C1.mono ?_
    rintro e u3 ⟨a9, n9, cap9, rfl, b9⟩
    have U3 : Hid (Below v.heap.size v u3) := U2.out.trans (b9.mono U2.out.size)
    clear U2 b9 C1 d1 d2 d4 d5 d6 d7 d8
    have dd := (HK.out _ U3.out).2
    have d1 := (dd.cell 1).trans rfl
    have d2 := (dd.cell 2).trans rfl
    have d4 := (dd.cell 4).trans rfl
    have d5 := (dd.cell 5).trans rfl
    have d6 := (dd.cell 6).trans rfl
    have d7 := (dd.cell 7).trans rfl
    have d8 := (dd.cell 8).trans rfl
    simp only [List.getElem?_toArray, List.getElem?_cons_zero, List.getElem?_cons_succ] at d1 d2 d4 d5 d6 d7 d8
    clear dd
    have C1 := nl_send s cc (.slice a9 n9 cap9) x9 u3
    simp only [pcv, pcc] at C1
    go_wp2_with fail
    go_at_call 20
    with_reducible refine C1.mono ?_
    rintro e u4 ⟨rfl, b9⟩
    have U4 : Hid (Below v.heap.size v u4) := U3.out.trans (b9.mono U3.out.size)
    clear U3 b9 C1 d1 d2 d4 d5 d6 d7 d8
    have dd := (HK.out _ U4.out).2
    have d1 := (dd.cell 1).trans rfl
    have d2 := (dd.cell 2).trans rfl
    have d4 := (dd.cell 4).trans rfl
    have d5 := (dd.cell 5).trans rfl
    have d6 := (dd.cell 6).trans rfl
    have d7 := (dd.cell 7).trans rfl
    have d8 := (dd.cell 8).trans rfl
    simp only [List.getElem?_toArray, List.getElem?_cons_zero, List.getElem?_cons_succ] at d1 d2 d4 d5 d6 d7 d8
    clear dd
    have C1 := nl_take pt ln W u4
    go_wp2_with fail
    go_at_call 10
    with_reducible refine C1.mono ?_
    rintro e u5 ⟨rfl, b9⟩
    have U5 : Hid (Below v.heap.size v u5) := U4.out.trans (b9.mono U4.out.size)
    clear U4 b9 C1 d1 d2 d4 d5 d6 d7 d8

    have C1 := nl_tell u5
    go_wp2_with fail
    go_at_call 13
    with_reducible refine C1.mono ?_
    rintro e u6 ⟨rfl, b9⟩
    have U6 : Hid (Below v.heap.size v u6) := U5.out.trans (b9.mono U5.out.size)
    clear U5 b9 C1

    have C1 := nl_left u6
    go_wp2_with fail
    go_at_call 17
    with_reducible refine C1.mono ?_
    rintro e u7 ⟨rfl, b9⟩
    have U7 : Hid (Below v.heap.size v u7) := U6.out.trans (b9.mono U6.out.size)
    clear U6 b9 C1

    have C1 := nl_sent u7
    go_wp2_with fail
    go_at_call 23
    with_reducible refine C1.mono ?_
    rintro e u8 ⟨rfl, b9⟩
    have U8 : Hid (Below v.heap.size v u8) := U7.out.trans (b9.mono U7.out.size)
    clear U7 b9 C1

    have C1 := nl_begun u8
    go_wp2_with fail
    go_at_call 12
    with_reducible refine C1.mono ?_
    rintro e u9 ⟨rfl, b9⟩
    have U9 : Hid (Below v.heap.size v u9) := U8.out.trans (b9.mono U8.out.size)
    clear U8 b9 C1

    have C1 := nl_len u9
    go_wp2_with fail
    go_at_call 24
    with_reducible refine C1.mono ?_
    rintro e u10 ⟨rfl, b9⟩
    have U10 : Hid (Below v.heap.size v u10) := U9.out.trans (b9.mono U9.out.size)
    clear U9 b9 C1

    have C1 := nl_room u10
    go_wp2_with fail
    go_at_call 25
    with_reducible refine C1.mono ?_
    rintro e u11 ⟨rfl, b9⟩
    have U11 : Hid (Below v.heap.size v u11) := U10.out.trans (b9.mono U10.out.size)
    clear U10 b9 C1

    have C1 := nl_waits u11
    go_wp2_with fail
    go_at_call 11
    with_reducible refine C1.mono ?_
    rintro e u12 ⟨rfl, b9⟩
    have U12 : Hid (Below v.heap.size v u12) := U11.out.trans (b9.mono U11.out.size)
    clear U11 b9 C1

    have C1 := nl_next u12
    go_wp2_with fail
    go_at_call 15
    with_reducible refine C1.mono ?_
    rintro e u13 ⟨rfl, b9⟩
    have U13 : Hid (Below v.heap.size v u13) := U12.out.trans (b9.mono U12.out.size)
    clear U12 b9 C1

    have C1 := nl_ready u13
    go_wp2_with (go_at_call 26; with_reducible refine C1.mono ?_; rintro e u14 ⟨rfl, b9⟩)
    go_ret
    exact ⟨rfl, HW.out _ (U13.out.trans (b9.mono U13.out.size))⟩
end Go.Proofs.Ytoejpngdkcnnhaa
