/-
  The program's nic: Send. (Written by gen_nsend.py.)
-/
import Derived.Test.YtoejpngdkcnnhaaGreatNcThere
import Derived.Test.YtoejpngdkcnnhaaGreatNcPut
import Derived.Test.YtoejpngdkcnnhaaGreatWd
import Derived.Test.YtoejpngdkcnnhaaGreatCut
namespace Go.Proofs.YtoejpngdkcnnhaaGreat
open Go.RowKit

theorem Tryz.info82 : (Tryz.prog.info? 82).map (fun i => (i.zero, i.size, i.bytes)) = some (some (.agg #[.int .i64 0, .slice none 0 0]), 2, 32) := by kernel_rfl
/-- What Send tells. -/
def sendE (S : Nc) (P : Pc) : Int := if P.wordsR.2 ≠ 0 then P.wordsR.2 else if P.s = S.nd ∧ thr S.c P.hs = true then (if (G.cla S.c P.c).2 = 0 then 10 else 0) else 5
def lnR (S : Nc) (P : Pc) : Int := (G.cla S.c P.c).1 + S.st.tmod (G.cla S.c P.c).2
theorem Bk.apart {w : World} {b k : Nat} {cs cs' : Array Value} {t t' : TypeId} (h : Bk w b cs t) (h' : Bk w k cs' t') (hne : t ≠ t') : b ≠ k := fun e => by
  subst e
  unfold Bk at h h'
  rw [h] at h'
  injection h' with h'
  injection h' with _ h'
  exact hne h'
theorem Rd.offs {w : World} {a : Option Addr} {l : List Value} {b k : Nat} {x : Value} (h : Rd w a l) (hn : ∀ q, a = some q → q.block ≠ b) : Rd (w.setCell ⟨b, k, none⟩ x) a l := fun j v hj => by
  obtain ⟨g, off, rfl, hg, hc⟩ := h j v hj
  refine ⟨g, off, rfl, by simpa using hg, ?_⟩
  rw [World.cell?_of_block (Below.heap_setCell w ⟨b, k, none⟩ x g (hn _ rfl))]
  exact hc
theorem send_fin {w wb : World} {b ib : Nat} {S : Nc} {cu v : Value} {J : Nat → Value} {B m W : Nat} {cs' vs : List Value} {a2 : Option Addr} {F : Nat → Prop} (h1 : Nb wb b ib S cu J) (h2 : OwnK 82 2 wb B v m cs') (hbB : b < B) (h3 : Rd wb a2 vs) (h4 : ∀ q, a2 = some q → W ≤ q.block ∧ ∃ cs, Bk wb q.block cs 46) (h5 : Tn F w wb) (hF : F b) (lf st : Int) :
    Nb (((wb.setCell ⟨b, 13, none⟩ v).setCell ⟨b, 12, none⟩ (.int .i64 lf)).setCell ⟨b, 11, none⟩ (.int .i64 st)) b ib { S with st := st, lf := lf } v J ∧ OwnK 82 2 (((wb.setCell ⟨b, 13, none⟩ v).setCell ⟨b, 12, none⟩ (.int .i64 lf)).setCell ⟨b, 11, none⟩ (.int .i64 st)) B v m cs' ∧ Rd (((wb.setCell ⟨b, 13, none⟩ v).setCell ⟨b, 12, none⟩ (.int .i64 lf)).setCell ⟨b, 11, none⟩ (.int .i64 st)) a2 vs ∧ (∀ q, a2 = some q → W ≤ q.block ∧ ∃ cs, Bk (((wb.setCell ⟨b, 13, none⟩ v).setCell ⟨b, 12, none⟩ (.int .i64 lf)).setCell ⟨b, 11, none⟩ (.int .i64 st)) q.block cs 46) ∧ Tn F w (((wb.setCell ⟨b, 13, none⟩ v).setCell ⟨b, 12, none⟩ (.int .i64 lf)).setCell ⟨b, 11, none⟩ (.int .i64 st)) := by
  have off : ∀ q, a2 = some q → q.block ≠ b := fun q hq => (h4 q hq).2.elim fun cs h => h.apart h1.bk (by decide)
  refine ⟨((h1.setCu v).setLf lf).setSt st, ((h2.far hbB).far hbB).far hbB, ((h3.offs off).offs off).offs off, fun q hq => ⟨(h4 q hq).1, (h4 q hq).2.elim fun cs h => ⟨cs, ((h.far (off q hq)).far (off q hq)).far (off q hq)⟩⟩, ((h5.set hF _).set hF _).set hF _⟩
section
variable {w : World} {b ib : Nat} {S : Nc} {cu : Value} {J : Nat → Value} {B n : Nat} {cells : List Value}
set_option maxRecDepth 100000 in
set_option maxHeartbeats 8000000 in
theorem send_ok (hN : Nb w b ib S cu J) (s : Int) (c : Bool) (a : Option Addr) (cap : Nat) (x : ByteArray) (hs : List (Int × Int)) (hl : hs.length ≤ 1000000) (hx : x.size ≤ maxLen) (hr : Rd w a (pc hs)) (h0 : sendE S ⟨s, c, hs, x⟩ = 0)
    (hcl : 0 ≤ (G.cla S.c c).1 ∧ (G.cla S.c c).1 ≤ 8 ∧ 0 ≤ (G.cla S.c c).2 ∧ (G.cla S.c c).2 ≤ 8) (hst : 0 ≤ S.st ∧ S.st ≤ 1000000) (hlf : 0 ≤ S.lf ∧ S.lf ≤ 1000000) (hwl : (Pc.ws ⟨s, c, hs, x⟩).length ≤ 1000000)
    (hO : OwnK 82 2 w B cu n cells) (hbB : b < B) (hB : B ≤ w.heap.size) (hn : n ≤ 1000000) :
    Calls Tryz.prog 10 #[.pointer (some ⟨b, 0, none⟩), pcv s c (.slice a hs.length cap) x] w fun e w' => e = .returned (.int .i64 0) ∧ ∃ v a' cap', Nb w' b ib { S with st := S.st + 1, lf := S.lf + ((Pc.ws ⟨s, c, hs, x⟩).length : Int) } v J ∧ OwnK 82 2 w' B v (n + 1) (cells ++ [.int .i64 (lnR S ⟨s, c, hs, x⟩), .slice a' (Pc.ws ⟨s, c, hs, x⟩).length cap']) ∧ (Pc.ws ⟨s, c, hs, x⟩).length ≤ cap' ∧ Rd w' a' (vw (Pc.ws ⟨s, c, hs, x⟩)) ∧ (∀ q, a' = some q → w.heap.size ≤ q.block ∧ ∃ cs, Bk w' q.block cs 46) ∧ Tn (fun g => g = b ∨ cu.ownBlock = some g) w w' := by
  have CL := look_any b
  unfold sendE at h0
  have hw2 : (Pc.wordsR ⟨s, c, hs, x⟩).2 = 0 := by
    by_cases h : (Pc.wordsR ⟨s, c, hs, x⟩).2 ≠ 0
    · rw [if_pos h] at h0; exact absurd h0 h
    · exact Decidable.not_not.1 h
  rw [if_neg (by rw [hw2]; simp)] at h0
  have hthr : s = S.nd ∧ thr S.c hs = true := by
    by_cases h : s = S.nd ∧ thr S.c hs = true
    · exact h
    · rw [if_neg h] at h0; exact absurd h0 (by decide)
  rw [if_pos hthr] at h0
  have hmany : (G.cla S.c c).2 ≠ 0 := fun h => by rw [if_pos h] at h0; exact absurd h0 (by decide)
  clear h0
  have hwr : (Pc.wordsR ⟨s, c, hs, x⟩) = (Pc.ws ⟨s, c, hs, x⟩, 0) := by
    unfold Pc.wordsR at hw2 ⊢
    by_cases h1 : 64 < x.size
    · rw [if_pos h1] at hw2; exact absurd hw2 (by decide)
    · rw [if_neg h1] at hw2 ⊢
      by_cases h2 : Pc.okB ⟨s, c, hs, x⟩ = true
      · rw [if_pos h2]
      · rw [if_neg h2] at hw2; exact absurd hw2 (by decide)
  have b1 : Below w.heap.size w (w.alloc (.cells (pcc s c (.slice a hs.length cap) x) 42)) := (Below.refl _ _).alloc (Nat.le_refl _) _
  have CW := cwords_new s c a cap x hs (w.alloc (.cells (pcc s c (.slice a hs.length cap) x) 42)) hl hx (hr.below b1)
  rw [hwr] at CW
  have CA : Hid (∀ u, Below w.heap.size w u → Calls Tryz.prog 30 #[.pointer (some ⟨b, 0, none⟩), .slice a hs.length cap] u fun e w' => e = .returned (.bool true) ∧ Below u.heap.size u w') := show _ from fun u hu => by
    have := there_any (hN.next hu) a cap hs hl (hr.below hu)
    rw [hthr.2] at this
    exact this
  have CC : Hid (∀ u, Calls Tryz.prog 31 #[G.cfv S.c, .bool c] u fun e w' => e = .returned (.tuple #[.int .i64 (G.cla S.c c).1, .int .i64 (G.cla S.c c).2]) ∧ Below u.heap.size u w') := show _ from fun u => G.class_any S.c c u
  have HNX : Hid (∀ u, Below w.heap.size w u → Nb u b ib S cu J) := show _ from fun u hu => hN.next hu
  have HO : Hid (OwnK 82 2 w B cu n cells) := hO
  have HRM : Hid (lnR S ⟨s, c, hs, x⟩ = (G.cla S.c c).1 + S.st.tmod (G.cla S.c c).2) := rfl
  have hrem : IntKind.i64.wrap (S.st.tmod (G.cla S.c c).2) = S.st.tmod (G.cla S.c c).2 ∧ 0 ≤ S.st.tmod (G.cla S.c c).2 ∧ S.st.tmod (G.cla S.c c).2 < 8 := by
    have e1 : S.st.tmod (G.cla S.c c).2 = S.st % (G.cla S.c c).2 := Int.tmod_eq_emod_of_nonneg hst.1
    have e2 := Int.emod_nonneg S.st hmany
    have e3 := Int.emod_lt_of_pos S.st (show 0 < (G.cla S.c c).2 by omega)
    rw [e1]
    exact ⟨IntWalk.i64_in _ (by omega), e2, by omega⟩
  obtain ⟨rm1, rm2, rm3⟩ := hrem
  generalize lnR S ⟨s, c, hs, x⟩ = LN at *
  have HCL : Hid (0 ≤ (G.cla S.c c).1 ∧ (G.cla S.c c).1 ≤ 8) := ⟨hcl.1, hcl.2.1⟩
  obtain ⟨fi, hfi⟩ : ∃ q, (G.cla S.c c).1 = q := ⟨_, rfl⟩
  obtain ⟨ma, hma⟩ : ∃ q, (G.cla S.c c).2 = q := ⟨_, rfl⟩
  rw [hfi, hma] at CC HRM
  rw [hma] at rm1 rm2 rm3 hmany hcl
  rw [hfi] at hcl HCL
  obtain ⟨WS, hWS⟩ : ∃ q, Pc.ws ⟨s, c, hs, x⟩ = q := ⟨_, rfl⟩
  rw [hWS] at CW hwl ⊢
  have HSN : Hid (s = S.nd) := hthr.1
  obtain ⟨nh, hnh⟩ : ∃ q, hs.length = q := ⟨_, rfl⟩
  rw [hnh] at CW CA b1 ⊢
  have HB1 : Hid (Below w.heap.size w (w.alloc (.cells (pcc s c (.slice a nh cap) x) 42))) := b1
  have PB : Bk (w.alloc (.cells (pcc s c (.slice a nh cap) x) 42)) w.heap.size (pcc s c (.slice a nh cap) x) 42 := Bk.new _ _ _
  have hd := (hN.next b1).hd.1
  have HBS : Hid (b < B ∧ B ≤ w.heap.size ∧ n ≤ 1000000) := ⟨hbB, hB, hn⟩
  have HST : Hid (0 ≤ S.st ∧ S.st ≤ 1000000 ∧ 0 ≤ S.lf ∧ S.lf ≤ 1000000 ∧ WS.length ≤ 1000000) := show _ ∧ _ ∧ _ ∧ _ ∧ _ from ⟨hst.1, hst.2, hlf.1, hlf.2, hwl⟩
  clear hN hl hx hr hthr hwr hw2 hO hbB hB hn hfi hma hWS hnh b1 hcl hst hlf hwl
  simp only [pcv, pcc] at *
  go_enter Tryz.func10, Tryz.ntmps10
  go_upto_region 1 with fail
  generalize w.alloc (.cells #[.int .i64 s, .bool c, .slice a nh cap, .string x] 42) = v1 at *
  obtain ⟨r, hr⟩ : ∃ r, w.heap.size = r := ⟨_, rfl⟩
  have HR : Hid (w.heap.size = r) := hr
  rw [hr] at PB ⊢
  clear hr
  have p0 := PB.cell 0
  have p1 := PB.cell 1
  have p2 := PB.cell 2
  have p3 := PB.cell 3
  simp only [List.getElem?_toArray, List.getElem?_cons_zero, List.getElem?_cons_succ] at p0 p1 p2 p3
  have HPB : Hid (Bk v1 r #[.int .i64 s, .bool c, .slice a nh cap, .string x] 42) := PB
  clear PB
  go_wp2_with fail
  go_at_call 28
  with_reducible refine (CL _).mono ?_
  rintro e v ⟨rfl, rfl⟩
  clear CL
  go_upto_region 5 with (go_at_call 29; with_reducible refine CW.mono ?_; rintro e v2 ⟨a2, cap2, rfl, x1, x2, x3, x4⟩)
  have X3 : Hid (Below w.heap.size w v2) := HB1.out.trans (x3.mono HB1.out.size)
  have HP2 : Hid (Bk v2 r #[.int .i64 s, .bool c, .slice a nh cap, .string x] 42) := HPB.out.next x3
  have HX : Hid (WS.length ≤ cap2 ∧ Rd v2 a2 (vw WS) ∧ ∀ q, a2 = some q → w.heap.size ≤ q.block ∧ ∃ cs, Bk v2 q.block cs 46) := show _ ∧ _ ∧ _ from ⟨x1, x2, fun q hq => ⟨Nat.le_trans HB1.out.size (x4 q hq).1, (x4 q hq).2⟩⟩
  have NN2 : Hid (Nb v2 b ib S cu J) := HNX.out v2 X3.out
  have k0 : ∀ q : Gw v2, q.v.cell? ⟨r, 0, none⟩ = some (.int .i64 s) := fun q => Gw.cell q HP2.out.lt ((HP2.out.cell 0).trans rfl)
  have k2 : ∀ q : Gw v2, q.v.cell? ⟨r, 2, none⟩ = some (.slice a nh cap) := fun q => Gw.cell q HP2.out.lt ((HP2.out.cell 2).trans rfl)
  have k10 : ∀ q : Gw v2, q.v.cell? ⟨b, 10, none⟩ = some (.int .i64 s) := fun q => Gw.cell q NN2.out.lt (by rw [HSN.out]; exact NN2.out.hd.2.1)
  have AC : ∀ q : Gw v2, Calls Tryz.prog 30 #[.pointer (some ⟨b, 0, none⟩), .slice a nh cap] q.v fun e w' => e = .returned (.bool true) ∧ Below q.v.heap.size q.v w' := fun q => CA.out q.v (X3.out.trans (q.le.mono X3.out.size))
  clear x1 x2 x3 x4 CW CA hd p0 p1 p2 p3 HPB HB1
  go_upto_region 7 with fail
  refine region_gw (by kernel_rfl) (by kernel_rfl) ?_
  repeat (first
    | go_big_quiet_skip
    | quiet_step (first
      | (go_at_call 30; exact quiet_below (AC _))))
  refine wpQuiet_nil ?_
  intro u hw'
  obtain ⟨⟨v3, hb3⟩, e⟩ := hw'
  obtain rfl : u = v3 := e
  clear k0 k2 k10 AC
  have X4 : Hid (Below w.heap.size w u) := X3.out.trans (hb3.mono X3.out.size)
  have HP3 : Hid (Bk u r #[.int .i64 s, .bool c, .slice a nh cap, .string x] 42) := HP2.out.next hb3
  have HX3 : Hid (WS.length ≤ cap2 ∧ Rd u a2 (vw WS) ∧ ∀ q, a2 = some q → w.heap.size ≤ q.block ∧ ∃ cs, Bk u q.block cs 46) := show _ ∧ _ ∧ _ from ⟨HX.out.1, HX.out.2.1.below hb3, fun q hq => ⟨(HX.out.2.2 q hq).1, (HX.out.2.2 q hq).2.elim fun cs h => ⟨cs, h.next hb3⟩⟩⟩
  have NN3 : Hid (Nb u b ib S cu J) := HNX.out u X4.out
  clear X3 HP2 HX NN2 hb3
  have cf := NN3.out.cf
  obtain ⟨sc, hsc⟩ : ∃ q, S.c = q := ⟨_, rfl⟩
  have HSC : Hid (S.c = sc) := hsc
  rw [hsc] at cf CC
  clear hsc
  obtain ⟨cw, ch, cl, cd, cr, ci, cb, we, ca⟩ := sc
  simp only [G.cfv, G.cfc] at cf CC
  obtain ⟨y1, y2, y3, y4, y5, y6, y7, y8, y9⟩ := cf

  have k1 : ∀ q : Gw u, q.v.cell? ⟨b, 1, none⟩ = some (.int .i64 cw) := fun q => Gw.cell q NN3.out.lt y1
  have k2 : ∀ q : Gw u, q.v.cell? ⟨b, 2, none⟩ = some (.int .i64 ch) := fun q => Gw.cell q NN3.out.lt y2
  have k3 : ∀ q : Gw u, q.v.cell? ⟨b, 3, none⟩ = some (.int .i64 cl) := fun q => Gw.cell q NN3.out.lt y3
  have k4 : ∀ q : Gw u, q.v.cell? ⟨b, 4, none⟩ = some (.int .i64 cd) := fun q => Gw.cell q NN3.out.lt y4
  have k5 : ∀ q : Gw u, q.v.cell? ⟨b, 5, none⟩ = some (.int .i64 cr) := fun q => Gw.cell q NN3.out.lt y5
  have k6 : ∀ q : Gw u, q.v.cell? ⟨b, 6, none⟩ = some (.int .i64 ci) := fun q => Gw.cell q NN3.out.lt y6
  have k7 : ∀ q : Gw u, q.v.cell? ⟨b, 7, none⟩ = some (.int .i64 cb) := fun q => Gw.cell q NN3.out.lt y7
  have k8 : ∀ q : Gw u, q.v.cell? ⟨b, 8, none⟩ = some (.bool we) := fun q => Gw.cell q NN3.out.lt y8
  have k9 : ∀ q : Gw u, q.v.cell? ⟨b, 9, none⟩ = some (.bool ca) := fun q => Gw.cell q NN3.out.lt y9
  have kc : ∀ q : Gw u, q.v.cell? ⟨r, 1, none⟩ = some (.bool c) := fun q => Gw.cell q HP3.out.lt ((HP3.out.cell 1).trans rfl)
  have AC : ∀ q : Gw u, Calls Tryz.prog 31 #[.agg #[.int .i64 cw, .int .i64 ch, .int .i64 cl, .int .i64 cd, .int .i64 cr, .int .i64 ci, .int .i64 cb, .bool we, .bool ca], .bool c] q.v fun e w' => e = .returned (.tuple #[.int .i64 fi, .int .i64 ma]) ∧ Below q.v.heap.size q.v w' := fun q => CC.out q.v
  clear y1 y2 y3 y4 y5 y6 y7 y8 y9 CC
  go_upto_region 9 with fail
  refine region_gw (by kernel_rfl) (by kernel_rfl) ?_
  repeat (first
    | go_big_quiet_skip
    | quiet_step (first
      | (go_at_call 31; exact quiet_below (AC _))))
  refine wpQuiet_nil ?_
  intro z hw'
  obtain ⟨⟨v3, hb3⟩, e⟩ := hw'
  obtain rfl : z = v3 := e
  clear k1 k2 k3 k4 k5 k6 k7 k8 k9 kc AC
  have X5 : Hid (Below w.heap.size w z) := X4.out.trans (hb3.mono X4.out.size)
  have HX5 : Hid (WS.length ≤ cap2 ∧ Rd z a2 (vw WS) ∧ ∀ q, a2 = some q → w.heap.size ≤ q.block ∧ ∃ cs, Bk z q.block cs 46) := show _ ∧ _ ∧ _ from ⟨HX3.out.1, HX3.out.2.1.below hb3, fun q hq => ⟨(HX3.out.2.2 q hq).1, (HX3.out.2.2 q hq).2.elim fun cs h => ⟨cs, h.next hb3⟩⟩⟩
  clear X4 HX3 HP3 NN3 hb3 HSC
  go_upto_region 12 with fail
  obtain ⟨i0, ki, hz0, hz1, hz2⟩ := info_parts Tryz.info82
  have NN5 : Hid (Nb z b ib S cu J) := HNX.out z X5.out
  have TS : Hid (∀ u, Below z.heap.size z u → u.cell? ⟨b, 13, none⟩ = some cu ∧ u.cell? ⟨b, 11, none⟩ = some (.int .i64 S.st)) := show _ from fun u hu => ⟨(NN5.out.next hu).hd.2.2.2.2, (NN5.out.next hu).hd.2.2.1⟩
  obtain ⟨st, hst⟩ : ∃ q, S.st = q := ⟨_, rfl⟩
  have HSS : Hid (S.st = st) := hst
  rw [hst] at TS rm1 rm2 rm3 HRM
  clear hst
  obtain ⟨rm, hrm⟩ : ∃ q, st.tmod ma = q := ⟨_, rfl⟩
  rw [hrm] at rm1 rm2 rm3 HRM
  have fi0 := HCL.out.1
  have fi8 := HCL.out.2
  have w4 : IntKind.i64.wrap (fi + rm) = fi + rm := IntWalk.i64_in _ (by omega)
  have D0 : Below z.heap.size z z.drew := (Below.refl _ _).drew
  have T0 := TS.out _ D0
  refine wp_region_G (fun V => V.cell? ⟨b, 13, none⟩ = some cu ∧ V.cell? ⟨b, 11, none⟩ = some (.int .i64 st)) 19 (by kernel_rfl) ?_
  refine wpAnyG_take [19] (some 51) (i := 0) (v := ?v0) rfl rfl (by kernel_rfl) (by kernel_rfl) (by kernel_rfl) (by kernel_rfl) (fun _ _ _ h => h) (Or.inl ⟨by rfl, ?y0⟩) T0 ?r0
  case y0 => (intro V hSV; obtain ⟨s0, s1⟩ := hSV; go_simp; try with_reducible rfl)
  try simp only [Act.put, List.setIfInBounds_toArray, List.set_cons_zero, List.set_cons_succ]
  refine wpAnyG_take [19] (some 52) (i := 1) (v := ?v1) rfl rfl (by kernel_rfl) (by kernel_rfl) (by kernel_rfl) (by kernel_rfl) (fun _ _ _ h => h) (Or.inl ⟨by rfl, ?y1⟩) T0 ?r1
  case y1 => (intro V hSV; obtain ⟨s0, s1⟩ := hSV; go_simp; try with_reducible rfl)
  try simp only [Act.put, List.setIfInBounds_toArray, List.set_cons_zero, List.set_cons_succ]
  refine wpAnyG_take [19] (some 53) (i := 2) (v := ?v2) rfl rfl (by kernel_rfl) (by kernel_rfl) (by kernel_rfl) (by kernel_rfl) (fun _ _ _ h => h) (Or.inl ⟨by rfl, ?y2⟩) T0 ?r2
  case y2 => (intro V hSV; obtain ⟨s0, s1⟩ := hSV; go_simp; try with_reducible rfl)
  try simp only [Act.put, List.setIfInBounds_toArray, List.set_cons_zero, List.set_cons_succ]
  refine wpAnyG_take [19] (some 54) (i := 3) (v := ?v3) rfl rfl (by kernel_rfl) (by kernel_rfl) (by kernel_rfl) (by kernel_rfl) (fun _ _ _ h => h) (Or.inl ⟨by rfl, ?y3⟩) T0 ?r3
  case y3 => (intro V hSV; obtain ⟨s0, s1⟩ := hSV; go_simp; try with_reducible rfl)
  try simp only [Act.put, List.setIfInBounds_toArray, List.set_cons_zero, List.set_cons_succ]
  refine wpAnyG_take [19] (some 55) (i := 4) (v := ?v4) rfl rfl (by kernel_rfl) (by kernel_rfl) (by kernel_rfl) (by kernel_rfl) (fun _ _ _ h => h) (Or.inl ⟨by rfl, ?y4⟩) T0 ?r4
  case y4 => (intro V hSV; obtain ⟨s0, s1⟩ := hSV; go_simp; try with_reducible rfl)
  try simp only [Act.put, List.setIfInBounds_toArray, List.set_cons_zero, List.set_cons_succ]
  refine wpAnyG_take [19] (some 56) (i := 5) (v := ?v5) rfl rfl (by kernel_rfl) (by kernel_rfl) (by kernel_rfl) (by kernel_rfl) (fun _ _ _ h => h) (Or.inl ⟨by rfl, ?y5⟩) T0 ?r5
  case y5 => (intro V hSV; obtain ⟨s0, s1⟩ := hSV; go_simp; try with_reducible rfl)
  try simp only [Act.put, List.setIfInBounds_toArray, List.set_cons_zero, List.set_cons_succ]
  refine wpAnyG_take [19] (some 57) (i := 6) (v := ?v6) rfl rfl (by kernel_rfl) (by kernel_rfl) (by kernel_rfl) (by kernel_rfl) (fun _ _ _ h => h) (Or.inl ⟨by rfl, ?y6⟩) T0 ?r6
  case y6 => (intro V hSV; obtain ⟨s0, s1⟩ := hSV; go_simp; try with_reducible rfl)
  try simp only [Act.put, List.setIfInBounds_toArray, List.set_cons_zero, List.set_cons_succ]
  refine wpAnyG_take [19] (some 58) (i := 7) (v := ?v7) rfl rfl (by kernel_rfl) (by kernel_rfl) (by kernel_rfl) (by kernel_rfl) (fun _ _ _ h => h) (Or.inl ⟨by rfl, ?y7⟩) T0 ?r7
  case y7 => (intro V hSV; obtain ⟨s0, s1⟩ := hSV; go_simp; try with_reducible rfl)
  try simp only [Act.put, List.setIfInBounds_toArray, List.set_cons_zero, List.set_cons_succ]
  refine wpAnyG_take [19] (some 59) (i := 8) (v := ?v8) rfl rfl (by kernel_rfl) (by kernel_rfl) (by kernel_rfl) (by kernel_rfl) (fun _ _ _ h => h) (Or.inl ⟨by rfl, ?y8⟩) T0 ?r8
  case y8 => (intro V hSV; obtain ⟨s0, s1⟩ := hSV; go_simp; try with_reducible rfl)
  try simp only [Act.put, List.setIfInBounds_toArray, List.set_cons_zero, List.set_cons_succ]
  refine wpAnyG_take [19] (some 60) (i := 9) (v := ?v9) rfl rfl (by kernel_rfl) (by kernel_rfl) (by kernel_rfl) (by kernel_rfl) (fun _ _ _ h => h) (Or.inl ⟨by rfl, ?y9⟩) T0 ?r9
  case y9 => (intro V hSV; obtain ⟨s0, s1⟩ := hSV; go_simp; try with_reducible rfl)
  try simp only [Act.put, List.setIfInBounds_toArray, List.set_cons_zero, List.set_cons_succ]
  refine wpAnyG_take [19] (some 61) (i := 10) (v := ?v10) rfl rfl (by kernel_rfl) (by kernel_rfl) (by kernel_rfl) (by kernel_rfl) (fun _ _ _ h => h) (Or.inl ⟨by rfl, ?y10⟩) T0 ?r10
  case y10 => (intro V hSV; obtain ⟨s0, s1⟩ := hSV; go_simp; try with_reducible rfl)
  try simp only [Act.put, List.setIfInBounds_toArray, List.set_cons_zero, List.set_cons_succ]
  refine wpAnyG_take [19] (some 62) (i := 11) (v := ?v11) rfl rfl (by kernel_rfl) (by kernel_rfl) (by kernel_rfl) (by kernel_rfl) (fun _ _ _ h => h) (Or.inl ⟨by rfl, ?y11⟩) T0 ?r11
  case y11 => (intro V hSV; obtain ⟨s0, s1⟩ := hSV; go_simp; try with_reducible rfl)
  try simp only [Act.put, List.setIfInBounds_toArray, List.set_cons_zero, List.set_cons_succ]
  refine wpAnyG_take [19] (some 63) (i := 12) (v := ?v12) rfl rfl (by kernel_rfl) (by kernel_rfl) (by kernel_rfl) (by kernel_rfl) (fun _ _ _ h => h) (Or.inl ⟨by rfl, ?y12⟩) T0 ?r12
  case y12 => (intro V hSV; obtain ⟨s0, s1⟩ := hSV; go_simp; try with_reducible rfl)
  try simp only [Act.put, List.setIfInBounds_toArray, List.set_cons_zero, List.set_cons_succ]
  refine wpAnyG_take [19] (some 64) (i := 13) (v := ?v13) rfl rfl (by kernel_rfl) (by kernel_rfl) (by kernel_rfl) (by kernel_rfl) (fun _ _ _ h => h) (Or.inl ⟨by rfl, ?y13⟩) T0 ?r13
  case y13 => (intro V hSV; obtain ⟨s0, s1⟩ := hSV; go_simp; try with_reducible rfl)
  try simp only [Act.put, List.setIfInBounds_toArray, List.set_cons_zero, List.set_cons_succ]
  refine wpAnyG_take [19] (some 65) (i := 14) (v := ?v14) rfl rfl (by kernel_rfl) (by kernel_rfl) (by kernel_rfl) (by kernel_rfl) (fun _ _ _ h => h) (Or.inl ⟨by rfl, ?y14⟩) T0 ?r14
  case y14 => (intro V hSV; obtain ⟨s0, s1⟩ := hSV; go_simp; try with_reducible rfl)
  try simp only [Act.put, List.setIfInBounds_toArray, List.set_cons_zero, List.set_cons_succ]
  have HLN : LN = fi + rm := HRM.out
  subst HLN
  have AL0 : Below z.heap.size z (z.alloc (.cells #[.int .i64 (fi + rm), .slice a2 WS.length cap2] 82)).drew := ((Below.refl _ _).alloc (Nat.le_refl _) _).drew
  have T1 := TS.out _ AL0
  have XA : Below w.heap.size w (z.alloc (.cells #[.int .i64 (fi + rm), .slice a2 WS.length cap2] 82)).drew := X5.out.trans (AL0.mono X5.out.size)
  have OW : OwnK 82 2 (z.alloc (.cells #[.int .i64 (fi + rm), .slice a2 WS.length cap2] 82)).drew B cu n cells := HO.out.below XA
  have NW : ∀ (j : Nat) (u : Value), ([.int .i64 (fi + rm), .slice a2 WS.length cap2] : List Value)[j]? = some u → (z.alloc (.cells #[.int .i64 (fi + rm), .slice a2 WS.length cap2] 82)).drew.cell? ⟨z.heap.size, j, none⟩ = some u := fun j u hj => by
    have := cell_of (heap_alloc_new z (.cells #[.int .i64 (fi + rm), .slice a2 WS.length cap2] 82)) j
    exact this.trans (by simpa using hj)
  have ON : ∀ u ∈ ([.int .i64 (fi + rm), .slice a2 WS.length cap2] : List Value), u.oneCell' = true := fun u hu => by
    simp at hu
    rcases hu with rfl | rfl <;> rfl
  have hk6 : n ≤ 1000000 := HBS.out.2.2
  have hbs : B ≤ (z.alloc (.cells #[.int .i64 (fi + rm), .slice a2 WS.length cap2] 82)).drew.heap.size := Nat.le_trans HBS.out.2.1 XA.size
  have F0 : Nb (z.alloc (.cells #[.int .i64 (fi + rm), .slice a2 WS.length cap2] 82)).drew b ib S cu J := NN5.out.next AL0
  have FR : Rd (z.alloc (.cells #[.int .i64 (fi + rm), .slice a2 WS.length cap2] 82)).drew a2 (vw WS) := HX5.out.2.1.below AL0
  have FQ : ∀ q, a2 = some q → w.heap.size ≤ q.block ∧ ∃ cs, Bk (z.alloc (.cells #[.int .i64 (fi + rm), .slice a2 WS.length cap2] 82)).drew q.block cs 46 := fun q hq => ⟨(HX5.out.2.2 q hq).1, (HX5.out.2.2 q hq).2.elim fun cs h => ⟨cs, h.next AL0⟩⟩
  have FT : Tn (fun g => g = b ∨ cu.ownBlock = some g) w (z.alloc (.cells #[.int .i64 (fi + rm), .slice a2 WS.length cap2] 82)).drew := (Tn.refl _ w).below XA
  have HBB := HBS.out.1
  have n0 : cu.ownBlock ≠ some b := fun h => by have := (OW.lt h).1; omega
  generalize hz9 : z.heap.size = z9 at *
  have HX9 : Hid (WS.length ≤ cap2) := HX5.out.1
  clear D0 T0 AL0 XA NN5 HX5
  refine wpAnyG_one (i := 15) (by kernel_rfl) rfl (fun K hK => ?_)
  go_simp
  generalize (z.alloc (.cells #[.int .i64 (fi + rm), .slice a2 WS.length cap2] 82)).drew = z6 at *
  refine hK.out _ _ (Or.inr T1) ?_
  clear hK K
  try simp only [Act.put, List.setIfInBounds_toArray, List.set_cons_zero, List.set_cons_succ]
  refine wpAnyG_one (i := 16) (by kernel_rfl) rfl (fun K hK => ?_)
  refine step_app_k (by rfl) _ _ 68 82 i0 (.agg #[.int .i64 0, .slice none 0 0]) 2 32 (by rfl) Tryz.underlying68 ki hz0 hz1 hz2 rfl (by decide) (by decide) B _ cu n cells [.int .i64 (fi + rm), .slice a2 WS.length cap2] z9 (by rfl) OW (by rfl) rfl NW ON hk6 hbs ?_
  intro cu' wb ow gw
  have G0 : Nb wb b ib S cu J := F0.kept gw n0
  have GQ : ∀ q, a2 = some q → w.heap.size ≤ q.block ∧ ∃ cs, Bk wb q.block cs 46 := fun q hq => ⟨(FQ q hq).1, (FQ q hq).2.elim fun cs h => ⟨cs, h.kept gw (OW.ne h (by decide))⟩⟩
  have GR : Rd wb a2 (vw WS) := fun j v hj => by
    obtain ⟨g, off, rfl, hg, hc⟩ := FR j v hj
    obtain ⟨cs, hq⟩ := (FQ _ rfl).2
    exact ⟨g, off, rfl, Nat.lt_of_lt_of_le hg gw.size, by rw [World.cell?_of_block (gw.block g hg fun e => OW.ne hq (by decide) e.symm)]; exact hc⟩
  have GT : Tn (fun g => g = b ∨ cu.ownBlock = some g) w wb := FT.trans ⟨gw.os, gw.tape, gw.output, gw.size, fun i hi hn => gw.block i hi fun e => hn (Or.inr e.symm), fun _ h => Or.inl h⟩
  have FIN : Hid (∀ lf' st', Nb (((wb.setCell ⟨b, 13, none⟩ cu').setCell ⟨b, 12, none⟩ (.int .i64 lf')).setCell ⟨b, 11, none⟩ (.int .i64 st')) b ib { S with st := st', lf := lf' } cu' J ∧ OwnK 82 2 (((wb.setCell ⟨b, 13, none⟩ cu').setCell ⟨b, 12, none⟩ (.int .i64 lf')).setCell ⟨b, 11, none⟩ (.int .i64 st')) B cu' (n + 1) (cells ++ [.int .i64 (fi + rm), .slice a2 WS.length cap2]) ∧ Rd (((wb.setCell ⟨b, 13, none⟩ cu').setCell ⟨b, 12, none⟩ (.int .i64 lf')).setCell ⟨b, 11, none⟩ (.int .i64 st')) a2 (vw WS) ∧ (∀ q, a2 = some q → w.heap.size ≤ q.block ∧ ∃ cs, Bk (((wb.setCell ⟨b, 13, none⟩ cu').setCell ⟨b, 12, none⟩ (.int .i64 lf')).setCell ⟨b, 11, none⟩ (.int .i64 st')) q.block cs 46) ∧ Tn (fun g => g = b ∨ cu.ownBlock = some g) w (((wb.setCell ⟨b, 13, none⟩ cu').setCell ⟨b, 12, none⟩ (.int .i64 lf')).setCell ⟨b, 11, none⟩ (.int .i64 st'))) := show _ from fun lf' st' => send_fin G0 ow HBB GR GQ GT (Or.inl rfl) lf' st'
  have g13 := G0.hd.2.2.2.2
  have g12 := G0.hd.2.2.2.1
  have g11 := G0.hd.2.2.1
  have z13 := G0.free 13
  have z12 := G0.free 12
  have z11 := G0.free 11
  have HCU : ∃ a9 n9 c9, cu' = .slice a9 n9 c9 := by
    obtain ⟨ra, za, h, -, -, -⟩ := ow.rd (by decide)
    exact ⟨_, _, _, h⟩
  obtain ⟨a9, n9, c9, rfl⟩ := HCU
  rw [HSS.out] at g11
  obtain ⟨lf, hlf⟩ : ∃ q, S.lf = q := ⟨_, rfl⟩
  have HLF : Hid (S.lf = lf) := hlf
  rw [hlf] at g12
  clear hlf
  have T2 := show _ ∧ _ from ⟨g13, g11⟩
  refine hK.out _ _ (Or.inr T2) ?_
  clear hK K
  try simp only [Act.put, List.setIfInBounds_toArray]
  clear T1 OW NW ON hk6 hbs F0 FR FQ FT n0 G0 GQ GR GT ow gw
  refine wpAnyG_take [18, 19] (some 68) (i := 17) (v := ?v17) rfl rfl (by kernel_rfl) (by kernel_rfl) (by kernel_rfl) (by kernel_rfl) (fun _ _ _ h => h) (Or.inl ⟨by rfl, ?y17⟩) T2 ?r17
  case y17 => (intro V hSV; obtain ⟨s0, s1⟩ := hSV; go_simp; try with_reducible rfl)
  try simp only [Act.put]
  refine wpAnyG_take [19] (some 69) (i := 18) (v := ?v18) rfl rfl (by kernel_rfl) (by kernel_rfl) (by kernel_rfl) (by kernel_rfl) (fun _ _ _ h => h) (Or.inl ⟨by rfl, ?y18⟩) T2 ?r18
  case y18 => (intro V hSV; obtain ⟨s0, s1⟩ := hSV; go_simp; try with_reducible rfl)
  try simp only [Act.put]
  refine wpAnyG_one (i := 19) (by kernel_rfl) rfl (fun K hK => ?_)
  go_simp
  refine hK.out _ _ (Or.inl (by kernel_rfl)) ?_
  clear hK K
  try simp only [Act.put, List.setIfInBounds_toArray, List.set_cons_zero, List.set_cons_succ]
  refine wpAnyG_done (by kernel_rfl) ?_ _
  have HCW : Hid (WS.length ≤ cap2) := HX9.out
  have st1 : IntKind.i64.wrap (st + 1) = st + 1 := IntWalk.i64_in _ (by have := HST.out; have := HSS.out; omega)
  have lf1 : IntKind.i64.wrap (lf + (WS.length : Int)) = lf + (WS.length : Int) := IntWalk.i64_in _ (by have := HST.out; have := HLF.out; omega)
  clear T2 TS
  go_wp2
  go_ret
  have hs9 := HSS.out
  have hl9 := HLF.out
  rw [hs9, hl9]
  obtain ⟨q1, q2, q3, q4, q5⟩ := FIN.out (lf + (WS.length : Int)) (st + 1)

  exact ⟨rfl, _, q1, _, _, q2, HCW.out, q3, q4, q5⟩
end
end Go.Proofs.YtoejpngdkcnnhaaGreat
