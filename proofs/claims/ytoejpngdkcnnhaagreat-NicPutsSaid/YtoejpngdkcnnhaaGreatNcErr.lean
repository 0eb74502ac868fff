/-
  The program's nic: Send of what may not be sent. (Written by gen_nserr.py.)
-/
import Derived.Test.YtoejpngdkcnnhaaGreatNcSend
namespace Go.Proofs.YtoejpngdkcnnhaaGreat
open Go.RowKit

section
variable {w : World} {b ib : Nat} {S : Nc} {cu : Value} {J : Nat → Value}
set_option maxRecDepth 100000 in
set_option maxHeartbeats 8000000 in
theorem send_err (hN : Nb w b ib S cu J) (s : Int) (c : Bool) (a : Option Addr) (cap : Nat) (x : ByteArray) (hs : List (Int × Int)) (hl : hs.length ≤ 1000000) (hx : x.size ≤ maxLen) (hr : Rd w a (pc hs)) (h0 : sendE S ⟨s, c, hs, x⟩ ≠ 0) :
    Calls Tryz.prog 10 #[.pointer (some ⟨b, 0, none⟩), pcv s c (.slice a hs.length cap) x] w fun e w' => e = .returned (.int .i64 (sendE S ⟨s, c, hs, x⟩)) ∧ Below w.heap.size w w' := by
  have CL := look_any b
  have b1 : Below w.heap.size w (w.alloc (.cells (pcc s c (.slice a hs.length cap) x) 42)) := (Below.refl _ _).alloc (Nat.le_refl _) _
  have CW := cwords_new s c a cap x hs (w.alloc (.cells (pcc s c (.slice a hs.length cap) x) 42)) hl hx (hr.below b1)
  have CA : Hid (∀ u, Below w.heap.size w u → Calls Tryz.prog 30 #[.pointer (some ⟨b, 0, none⟩), .slice a hs.length cap] u fun e w' => e = .returned (.bool (thr S.c hs)) ∧ Below u.heap.size u w') := show _ from fun u hu => there_any (hN.next hu) a cap hs hl (hr.below hu)
  have CC : Hid (∀ u, Calls Tryz.prog 31 #[G.cfv S.c, .bool c] u fun e w' => e = .returned (.tuple #[.int .i64 (G.cla S.c c).1, .int .i64 (G.cla S.c c).2]) ∧ Below u.heap.size u w') := show _ from fun u => G.class_any S.c c u
  have HNX : Hid (∀ u, Below w.heap.size w u → Nb u b ib S cu J) := show _ from fun u hu => hN.next hu
  obtain ⟨er, her⟩ : ∃ q, (Pc.wordsR ⟨s, c, hs, x⟩).2 = q := ⟨_, rfl⟩
  obtain ⟨th, hth⟩ : ∃ q, thr S.c hs = q := ⟨_, rfl⟩
  obtain ⟨fi, hfi⟩ : ∃ q, (G.cla S.c c).1 = q := ⟨_, rfl⟩
  obtain ⟨ma, hma⟩ : ∃ q, (G.cla S.c c).2 = q := ⟨_, rfl⟩
  have hE : sendE S ⟨s, c, hs, x⟩ = if er ≠ 0 then er else if s = S.nd ∧ th = true then (if ma = 0 then 10 else 0) else 5 := by
    unfold sendE
    rw [her, hth, hma]
  rw [hE] at h0 ⊢
  rw [her] at CW
  rw [hth] at CA
  rw [hfi, hma] at CC
  generalize (Pc.wordsR ⟨s, c, hs, x⟩).1 = WS at *
  obtain ⟨nh, hnh⟩ : ∃ q, hs.length = q := ⟨_, rfl⟩
  rw [hnh] at CW CA b1 ⊢
  have HB1 : Hid (Below w.heap.size w (w.alloc (.cells (pcc s c (.slice a nh cap) x) 42))) := b1
  have PB : Bk (w.alloc (.cells (pcc s c (.slice a nh cap) x) 42)) w.heap.size (pcc s c (.slice a nh cap) x) 42 := Bk.new _ _ _
  have hd := (hN.next b1).hd.1
  clear hN hl hx hr hfi hma hth her hE hnh b1
  simp only [pcv, pcc] at *
  obtain ⟨R, hR⟩ : ∃ R, (if er ≠ 0 then er else if s = S.nd ∧ th = true then (if ma = 0 then 10 else 0) else 5) = R := ⟨_, rfl⟩
  have HR0 : Hid ((if er ≠ 0 then er else if s = S.nd ∧ th = true then (if ma = 0 then 10 else 0) else 5) = R ∧ R ≠ 0) := show _ ∧ _ from ⟨hR, by rw [← hR]; exact h0⟩
  rw [hR]
  clear h0 hR
  go_enter Tryz.func10, Tryz.ntmps10
  go_upto_region 1 with fail
  generalize w.alloc (.cells #[.int .i64 s, .bool c, .slice a nh cap, .string x] 42) = v1 at *
  obtain ⟨r, hr⟩ : ∃ r, w.heap.size = r := ⟨_, rfl⟩
  have HR : Hid (w.heap.size = r) := hr
  rw [hr] at PB ⊢
  clear hr
  have p0 := PB.cell 0
  have p1 := PB.cell 1
  have p2 := PB.cell 2
  have p3 := PB.cell 3
  simp only [List.getElem?_toArray, List.getElem?_cons_zero, List.getElem?_cons_succ] at p0 p1 p2 p3
  have HPB : Hid (Bk v1 r #[.int .i64 s, .bool c, .slice a nh cap, .string x] 42) := PB
  clear PB
  go_wp2_with fail
  go_at_call 28
  with_reducible refine (CL _).mono ?_
  rintro e v ⟨rfl, rfl⟩
  clear CL
  go_upto_region 5 with (go_at_call 29; with_reducible refine CW.mono ?_; rintro e v2 ⟨a2, cap2, rfl, x1, x2, x3, x4⟩)
  have X3 : Hid (Below w.heap.size w v2) := HB1.out.trans (x3.mono HB1.out.size)
  have HP2 : Hid (Bk v2 r #[.int .i64 s, .bool c, .slice a nh cap, .string x] 42) := HPB.out.next x3
  clear x1 x2 x3 x4 CW hd p0 p1 p2 p3 HPB HB1
  by_cases he : er = 0
  case neg =>
    have hR := HR0.out.1
    rw [if_pos he] at hR
    subst hR
    clear HR0
    go_wp2
    go_ret
    exact ⟨rfl, X3.out⟩
  subst he
  have NN2 : Hid (Nb v2 b ib S cu J) := HNX.out v2 X3.out
  obtain ⟨nd, hnd⟩ : ∃ q, S.nd = q := ⟨_, rfl⟩
  have HR1 : Hid ((if s = nd ∧ th = true then (if ma = 0 then 10 else 0) else 5) = R ∧ R ≠ 0) := show _ ∧ _ from by
    have := HR0.out
    rw [if_neg (by simp), hnd] at this
    exact this
  have HSN : Hid (S.nd = nd) := hnd
  clear HR0 hnd
  have k0 : ∀ q : Gw v2, q.v.cell? ⟨r, 0, none⟩ = some (.int .i64 s) := fun q => Gw.cell q HP2.out.lt ((HP2.out.cell 0).trans rfl)
  have k2 : ∀ q : Gw v2, q.v.cell? ⟨r, 2, none⟩ = some (.slice a nh cap) := fun q => Gw.cell q HP2.out.lt ((HP2.out.cell 2).trans rfl)
  have k10 : ∀ q : Gw v2, q.v.cell? ⟨b, 10, none⟩ = some (.int .i64 nd) := fun q => Gw.cell q NN2.out.lt (by rw [← HSN.out]; exact NN2.out.hd.2.1)
  have AC : ∀ q : Gw v2, Calls Tryz.prog 30 #[.pointer (some ⟨b, 0, none⟩), .slice a nh cap] q.v fun e w' => e = .returned (.bool th) ∧ Below q.v.heap.size q.v w' := fun q => CA.out q.v (X3.out.trans (q.le.mono X3.out.size))
  clear CA
  go_upto_region 7 with fail
  by_cases hsn : s = nd
  case neg =>
    have hR := HR1.out.1
    rw [if_neg (fun c => hsn c.1)] at hR
    subst hR
    clear HR1
    refine region_gw (by kernel_rfl) (by kernel_rfl) ?_
    repeat (first
      | go_big_quiet_skip
      | quiet_step (first
        | (go_at_call 30; exact quiet_below (AC _))))
    refine wpQuiet_nil ?_
    intro u hw'
    obtain ⟨⟨v3, hb3⟩, e⟩ := hw'
    obtain rfl : u = v3 := e
    go_wp2
    go_ret
    exact ⟨rfl, X3.out.trans (hb3.mono X3.out.size)⟩
  subst hsn
  cases th
  case false =>
    have hR := HR1.out.1
    rw [if_neg (fun c => by cases c.2)] at hR
    subst hR
    clear HR1
    refine region_gw (by kernel_rfl) (by kernel_rfl) ?_
    repeat (first
      | go_big_quiet_skip
      | quiet_step (first
        | (go_at_call 30; exact quiet_below (AC _))))
    refine wpQuiet_nil ?_
    intro u hw'
    obtain ⟨⟨v3, hb3⟩, e⟩ := hw'
    obtain rfl : u = v3 := e
    go_wp2
    go_ret
    exact ⟨rfl, X3.out.trans (hb3.mono X3.out.size)⟩
  have hR := HR1.out
  rw [if_pos ⟨rfl, rfl⟩] at hR
  have hm0 : ma = 0 := Decidable.by_contra fun h => hR.2 (by rw [← hR.1, if_neg h])
  subst hm0
  obtain ⟨hR, -⟩ := hR
  rw [if_pos rfl] at hR
  subst hR
  clear HR1
  refine region_gw (by kernel_rfl) (by kernel_rfl) ?_
  repeat (first
    | go_big_quiet_skip
    | quiet_step (first
      | (go_at_call 30; exact quiet_below (AC _))))
  refine wpQuiet_nil ?_
  intro u hw'
  obtain ⟨⟨v3, hb3⟩, e⟩ := hw'
  obtain rfl : u = v3 := e
  clear k0 k2 k10 AC
  have X4 : Hid (Below w.heap.size w u) := X3.out.trans (hb3.mono X3.out.size)
  have HP3 : Hid (Bk u r #[.int .i64 s, .bool c, .slice a nh cap, .string x] 42) := HP2.out.next hb3
  have NN3 : Hid (Nb u b ib S cu J) := HNX.out u X4.out
  clear X3 HP2 NN2 hb3
  have cf := NN3.out.cf
  obtain ⟨sc, hsc⟩ : ∃ q, S.c = q := ⟨_, rfl⟩
  have HSC : Hid (S.c = sc) := hsc
  rw [hsc] at cf CC
  clear hsc
  obtain ⟨cw, ch, cl, cd, cr, ci, cb, we, ca⟩ := sc
  simp only [G.cfv, G.cfc] at cf CC
  obtain ⟨y1, y2, y3, y4, y5, y6, y7, y8, y9⟩ := cf

  have k1 : ∀ q : Gw u, q.v.cell? ⟨b, 1, none⟩ = some (.int .i64 cw) := fun q => Gw.cell q NN3.out.lt y1
  have k2 : ∀ q : Gw u, q.v.cell? ⟨b, 2, none⟩ = some (.int .i64 ch) := fun q => Gw.cell q NN3.out.lt y2
  have k3 : ∀ q : Gw u, q.v.cell? ⟨b, 3, none⟩ = some (.int .i64 cl) := fun q => Gw.cell q NN3.out.lt y3
  have k4 : ∀ q : Gw u, q.v.cell? ⟨b, 4, none⟩ = some (.int .i64 cd) := fun q => Gw.cell q NN3.out.lt y4
  have k5 : ∀ q : Gw u, q.v.cell? ⟨b, 5, none⟩ = some (.int .i64 cr) := fun q => Gw.cell q NN3.out.lt y5
  have k6 : ∀ q : Gw u, q.v.cell? ⟨b, 6, none⟩ = some (.int .i64 ci) := fun q => Gw.cell q NN3.out.lt y6
  have k7 : ∀ q : Gw u, q.v.cell? ⟨b, 7, none⟩ = some (.int .i64 cb) := fun q => Gw.cell q NN3.out.lt y7
  have k8 : ∀ q : Gw u, q.v.cell? ⟨b, 8, none⟩ = some (.bool we) := fun q => Gw.cell q NN3.out.lt y8
  have k9 : ∀ q : Gw u, q.v.cell? ⟨b, 9, none⟩ = some (.bool ca) := fun q => Gw.cell q NN3.out.lt y9
  have kc : ∀ q : Gw u, q.v.cell? ⟨r, 1, none⟩ = some (.bool c) := fun q => Gw.cell q HP3.out.lt ((HP3.out.cell 1).trans rfl)
  have AC : ∀ q : Gw u, Calls Tryz.prog 31 #[.agg #[.int .i64 cw, .int .i64 ch, .int .i64 cl, .int .i64 cd, .int .i64 cr, .int .i64 ci, .int .i64 cb, .bool we, .bool ca], .bool c] q.v fun e w' => e = .returned (.tuple #[.int .i64 fi, .int .i64 0]) ∧ Below q.v.heap.size q.v w' := fun q => CC.out q.v
  clear y1 y2 y3 y4 y5 y6 y7 y8 y9 CC
  go_upto_region 9 with fail
  refine region_gw (by kernel_rfl) (by kernel_rfl) ?_
  repeat (first
    | go_big_quiet_skip
    | quiet_step (first
      | (go_at_call 31; exact quiet_below (AC _))))
  refine wpQuiet_nil ?_
  intro z hw'
  obtain ⟨⟨v4, hb4⟩, e⟩ := hw'
  obtain rfl : z = v4 := e
  have X5 : Hid (Below w.heap.size w z) := X4.out.trans (hb4.mono X4.out.size)
  go_wp2
  go_ret
  exact ⟨rfl, X5.out⟩
end
end Go.Proofs.YtoejpngdkcnnhaaGreat
