/-
  The walk of RouterGates. (Written by gen_rgat.py.)
-/
import Derived.Test.YtmmegmonmilkcaaGreatDoorRtSet
import Derived.Test.YtmmegmonmilkcaaGreatDoorRtGat
import Derived.Test.YtmmegmonmilkcaaGreatDoorRtLives
import Derived.Test.YtmmegmonmilkcaaGreatDoorGrid
namespace Go.Proofs.YtmmegmonmilkcaaGreatDoor
open Go.RowKit

/-- A law's router since u, and a row of parcels of the law's own beside it. -/
structure GtS (u wr : World) (sb : Nat) (CS : Array Value) (b : Nat) (c : G.Cf) (S : RS) (F : Nat → Prop) : Prop where
  l : RSt u wr b c S F
  s : Bk wr sb CS 39
  o : ¬ F sb
section
variable {u wr w' : World} {sb : Nat} {CS : Array Value} {b : Nat} {c : G.Cf} {S S' : RS} {F F' : Nat → Prop}
theorem GtS.next (h : GtS u wr sb CS b c S F) (k : Below wr.heap.size wr w') : GtS u w' sb CS b c S F := ⟨h.l.next k, h.s.next k, h.o⟩
theorem GtS.step (h : GtS u wr sb CS b c S F) (l : Rt w' b c S' F') (g : Gr F wr w' F') : GtS u w' sb CS b c S' F' := ⟨h.l.step l g, h.s.gr g h.o, g.off h.o h.s.lt⟩
end
theorem off_step {w w' : World} {F F' : Nat → Prop} {a : Option Addr} {L : List Nat} (h : Off F a) (r : Rd w a (vw L)) (hl : 0 < L.length) (g : Gr F w w' F') : Off F' a := fun x e => by
  obtain ⟨g0, o0, e0, hg, -⟩ := r 0 _ (vw_at hl)
  rw [e] at e0
  cases e0
  exact g.off (h _ e) hg

set_option maxRecDepth 100000 in
set_option maxHeartbeats 16000000 in
theorem gates_law (c0 : G.Cf) (s1 : Int) (cc1 : Bool) (a1 : Option Addr) (cap1 : Nat) (x1 : ByteArray) (hs1 : List (Int × Int)) (s2 : Int) (cc2 : Bool) (a2 : Option Addr) (cap2 : Nat) (x2 : ByteArray) (hs2 : List (Int × Int)) (w : World) (hm1 : hs1.length ≤ maxLen) (hx1 : x1.size ≤ maxLen) (hr1 : Rd w a1 (pc hs1)) (hm2 : hs2.length ≤ maxLen) (hx2 : x2.size ≤ maxLen) (hr2 : Rd w a2 (pc hs2)) (hT : G.Tabs w) (hS : G.Steps w) :
    Calls Tryz.prog 6 #[G.cfv c0, pcv s1 cc1 (.slice a1 hs1.length cap1) x1, pcv s2 cc2 (.slice a2 hs2.length cap2) x2] w fun e w' => e = .returned (.bool true) ∧ Below w.heap.size w w' := by
  have SC := fun v => G.small_form c0 v
  have HT : Hid (G.Tabs w ∧ G.Steps w) := show _ ∧ _ from ⟨hT, hS⟩
  -- the parcels, by their numbers
  obtain ⟨sS, hsS⟩ : ∃ f : Nat → Int, f = fun i => if i = 0 then s1 else s2 := ⟨_, rfl⟩
  obtain ⟨sC, hsC⟩ : ∃ f : Nat → Bool, f = fun i => if i = 0 then cc1 else cc2 := ⟨_, rfl⟩
  obtain ⟨sA, hsA⟩ : ∃ f : Nat → Option Addr, f = fun i => if i = 0 then a1 else a2 := ⟨_, rfl⟩
  obtain ⟨sN, hsN⟩ : ∃ f : Nat → Nat, f = fun i => if i = 0 then hs1.length else hs2.length := ⟨_, rfl⟩
  obtain ⟨sK, hsK⟩ : ∃ f : Nat → Nat, f = fun i => if i = 0 then cap1 else cap2 := ⟨_, rfl⟩
  obtain ⟨sX, hsX⟩ : ∃ f : Nat → ByteArray, f = fun i => if i = 0 then x1 else x2 := ⟨_, rfl⟩
  obtain ⟨sP, hsP⟩ : ∃ f : Nat → Pc, f = fun i => if i = 0 then gd ⟨s1, false, hs1, x1⟩ else gd ⟨s2, false, hs2, x2⟩ := ⟨_, rfl⟩
  have GC : Hid (∀ i v, i < 2 → Below w.heap.size w v → Calls Tryz.prog 29 #[.agg #[.int .i64 (sS i), .bool false, .slice (sA i) (sN i) (sK i), .string (sX i)]] v (PcN v (sP i))) := show _ from fun i v hi hb => by
    rcases (show i = 0 ∨ i = 1 by omega) with rfl | rfl
    · rw [hsS, hsA, hsN, hsK, hsX, hsP]
      exact good_new s1 false a1 cap1 x1 hs1 v hm1 hx1 (hr1.below hb)
    · rw [hsS, hsA, hsN, hsK, hsX, hsP]
      exact good_new s2 false a2 cap2 x2 hs2 v hm2 hx2 (hr2.below hb)
  have FP : ∀ i, i < 2 → Fine (sP i) ∧ (sP i).c = false := fun i hi => by
    rcases (show i = 0 ∨ i = 1 by omega) with rfl | rfl
    · rw [hsP]; exact ⟨fine ⟨s1, false, hs1, x1⟩, rfl⟩
    · rw [hsP]; exact ⟨fine ⟨s2, false, hs2, x2⟩, rfl⟩
  have CE : Hid (∀ i v sb, i < 2 → Bk v sb #[.int .i64 s1, .bool cc1, .slice a1 hs1.length cap1, .string x1, .int .i64 s2, .bool cc2, .slice a2 hs2.length cap2, .string x2] 39 → v.cell? ⟨sb, i * 4, none⟩ = some (.int .i64 (sS i)) ∧ v.cell? ⟨sb, i * 4 + 1, none⟩ = some (.bool (sC i)) ∧ v.cell? ⟨sb, i * 4 + 2, none⟩ = some (.slice (sA i) (sN i) (sK i)) ∧ v.cell? ⟨sb, i * 4 + 3, none⟩ = some (.string (sX i))) := show _ from fun i v sb hi hb => by
    rcases (show i = 0 ∨ i = 1 by omega) with rfl | rfl
    · rw [hsS, hsC, hsA, hsN, hsK, hsX]
      exact ⟨hb.cell 0, hb.cell 1, hb.cell 2, hb.cell 3⟩
    · rw [hsS, hsC, hsA, hsN, hsK, hsX]
      exact ⟨hb.cell 4, hb.cell 5, hb.cell 6, hb.cell 7⟩
  clear hsS hsC hsA hsN hsK hsX hsP hm1 hx1 hr1 hm2 hx2 hr2 hT hS
  obtain ⟨n1, hn1⟩ : ∃ n, hs1.length = n := ⟨_, rfl⟩
  obtain ⟨n2, hn2⟩ : ∃ n, hs2.length = n := ⟨_, rfl⟩
  rw [hn1, hn2] at CE ⊢
  clear hn1 hn2
  obtain ⟨cw, ch, cl, cd, cr, ci, cb, we, ca⟩ := c0
  simp only [G.cfv, G.cfc, pcv, pcc] at *
  have X0 : Hid (Bx3 w (((w.alloc (.cells #[.int .i64 cw, .int .i64 ch, .int .i64 cl, .int .i64 cd, .int .i64 cr, .int .i64 ci, .int .i64 cb, .bool we, .bool ca] 23)).alloc (.cells #[.int .i64 s1, .bool cc1, .slice a1 n1 cap1, .string x1] 39)).alloc (.cells #[.int .i64 s2, .bool cc2, .slice a2 n2 cap2, .string x2] 39)) w.heap.size #[.int .i64 cw, .int .i64 ch, .int .i64 cl, .int .i64 cd, .int .i64 cr, .int .i64 ci, .int .i64 cb, .bool we, .bool ca] #[.int .i64 s1, .bool cc1, .slice a1 n1 cap1, .string x1] #[.int .i64 s2, .bool cc2, .slice a2 n2 cap2, .string x2] 23 39 39) := Bx3.start w _ _ _ _ _ _
  have LV := lives_any (((w.alloc (.cells #[.int .i64 cw, .int .i64 ch, .int .i64 cl, .int .i64 cd, .int .i64 cr, .int .i64 ci, .int .i64 cb, .bool we, .bool ca] 23)).alloc (.cells #[.int .i64 s1, .bool cc1, .slice a1 n1 cap1, .string x1] 39)).alloc (.cells #[.int .i64 s2, .bool cc2, .slice a2 n2 cap2, .string x2] 39)) (HT.out.1.next X0.out.b) (HT.out.2.next X0.out.b)
  go_enter Tryz.func6, Tryz.ntmps6
  go_upto_region 1 with fail
  generalize (((w.alloc (.cells #[.int .i64 cw, .int .i64 ch, .int .i64 cl, .int .i64 cd, .int .i64 cr, .int .i64 ci, .int .i64 cb, .bool we, .bool ca] 23)).alloc (.cells #[.int .i64 s1, .bool cc1, .slice a1 n1 cap1, .string x1] 39)).alloc (.cells #[.int .i64 s2, .bool cc2, .slice a2 n2 cap2, .string x2] 39)) = v0 at *
  obtain ⟨A, hA⟩ : ∃ A, w.heap.size = A := ⟨_, rfl⟩
  have HAW : Hid (w.heap.size = A) := hA
  rw [hA] at X0 GC ⊢
  clear hA
  go_wp2_with fail
  go_at_call 9
  with_reducible refine LV.mono ?_
  rintro e w1 ⟨rfl, b1⟩
  have X1 : Hid (Bx3 w w1 A #[.int .i64 cw, .int .i64 ch, .int .i64 cl, .int .i64 cd, .int .i64 cr, .int .i64 ci, .int .i64 cb, .bool we, .bool ca] #[.int .i64 s1, .bool cc1, .slice a1 n1 cap1, .string x1] #[.int .i64 s2, .bool cc2, .slice a2 n2 cap2, .string x2] 23 39 39) := X0.out.next b1
  clear LV b1 X0
  obtain ⟨k0, k1, k2, k3, k4, k5, k6, k7, k8⟩ := nine_cells X1.out.q
  go_wp2_with fail
  go_at_call 10
  with_reducible refine (SC _).mono ?_
  rintro e w2 ⟨dw, dh, dl, dd, dr, di, db, de, da, rfl, b2, ft, hw4, hh4⟩
  have X2 : Hid (Bx3 w w2 A #[.int .i64 cw, .int .i64 ch, .int .i64 cl, .int .i64 cd, .int .i64 cr, .int .i64 ci, .int .i64 cb, .bool we, .bool ca] #[.int .i64 s1, .bool cc1, .slice a1 n1 cap1, .string x1] #[.int .i64 s2, .bool cc2, .slice a2 n2 cap2, .string x2] 23 39 39) := X1.out.next b2
  clear SC X1 k0 k1 k2 k3 k4 k5 k6 k7 k8 b2 hw4 hh4
  obtain ⟨k0, k1, k2, k3, k4, k5, k6, k7, k8⟩ := nine_cells X2.out.q
  obtain ⟨z0, z1, z2, z3, z4, z5, z6, z7, z8⟩ := nine_free X2.out.q
  go_upto_region 4 with fail
  have X3 : Hid (Bx3 w (((((((((w2.setCell ⟨A, 0, none⟩ (.int .i64 dw)).setCell ⟨A, 1, none⟩ (.int .i64 dh)).setCell ⟨A, 2, none⟩ (.int .i64 dl)).setCell ⟨A, 3, none⟩ (.int .i64 dd)).setCell ⟨A, 4, none⟩ (.int .i64 dr)).setCell ⟨A, 5, none⟩ (.int .i64 di)).setCell ⟨A, 6, none⟩ (.int .i64 db)).setCell ⟨A, 7, none⟩ (.bool de)).setCell ⟨A, 8, none⟩ (.bool da)) A #[.int .i64 dw, .int .i64 dh, .int .i64 dl, .int .i64 dd, .int .i64 dr, .int .i64 di, .int .i64 db, .bool de, .bool da] #[.int .i64 s1, .bool cc1, .slice a1 n1 cap1, .string x1] #[.int .i64 s2, .bool cc2, .slice a2 n2 cap2, .string x2] 23 39 39) := X2.out.config
  clear X2 k0 k1 k2 k3 k4 k5 k6 k7 k8 z0 z1 z2 z3 z4 z5 z6 z7 z8
  generalize (((((((((w2.setCell ⟨A, 0, none⟩ (.int .i64 dw)).setCell ⟨A, 1, none⟩ (.int .i64 dh)).setCell ⟨A, 2, none⟩ (.int .i64 dl)).setCell ⟨A, 3, none⟩ (.int .i64 dd)).setCell ⟨A, 4, none⟩ (.int .i64 dr)).setCell ⟨A, 5, none⟩ (.int .i64 di)).setCell ⟨A, 6, none⟩ (.int .i64 db)).setCell ⟨A, 7, none⟩ (.bool de)).setCell ⟨A, 8, none⟩ (.bool da)) = w3 at *
  have k3 := X3.out.q.cell 3
  have z3 := X3.out.q.free 3
  simp only [List.getElem?_toArray, List.getElem?_cons_zero, List.getElem?_cons_succ] at k3
  go_upto_region 5 with fail
  have X4 : Hid (Bx3 w (w3.setCell ⟨A, 3, none⟩ (.int .i64 64)) A #[.int .i64 dw, .int .i64 dh, .int .i64 dl, .int .i64 64, .int .i64 dr, .int .i64 di, .int .i64 db, .bool de, .bool da] #[.int .i64 s1, .bool cc1, .slice a1 n1 cap1, .string x1] #[.int .i64 s2, .bool cc2, .slice a2 n2 cap2, .string x2] 23 39 39) := show Bx3 _ _ _ _ _ _ _ _ _ from by
    have := X3.out.setq 3 (.int .i64 64)
    simpa using this
  clear X3 k3 z3
  generalize w3.setCell ⟨A, 3, none⟩ (.int .i64 64) = w4 at *
  have ft2 := fits_depth ft
  have hchk := G.chk_fits ft2
  have hl1 : 1 ≤ dl := ft.l1
  have hl8 : dl ≤ 8 := ft.l2
  have hNode : G.isN ⟨dw, dh, dl, 64, dr, di, db, de, da⟩ 0 = true := G.isN_mk hchk (by decide) (by
    show 0 < dw * dh
    exact Int.mul_pos (by have := ft.w1; simp only at this; omega) (by have := ft.h1; simp only at this; omega))
  clear ft ft2
  obtain ⟨nn, rfl⟩ : ∃ nn : Nat, dl = (nn : Int) := ⟨dl.toNat, by omega⟩
  obtain ⟨U, Pt, GG, HG⟩ := gatF_of (T := telR ⟨dw, dh, nn, 64, dr, di, db, de, da⟩ 0) (n := nn) (Ls := fun i => (setP 0 (sP i)).ws) (fun i hi => (setP_wds (FP i hi).1 (FP i hi).2 (v := 0) (by decide) (by decide)).1) (by omega)
  have WCd : ∀ v, Calls Tryz.prog 12 #[.agg #[.int .i64 dw, .int .i64 dh, .int .i64 (nn : Int), .int .i64 64, .int .i64 dr, .int .i64 di, .int .i64 db, .bool de, .bool da], .int .i64 0] v fun e w' => ∃ p F, e = .returned (.pointer (some ⟨p, 0, none⟩)) ∧ Rt w' p ⟨dw, dh, nn, 64, dr, di, db, de, da⟩ (U 0) F ∧ (∀ g, F g → v.heap.size ≤ g) ∧ Below v.heap.size v w' := fun v => by
    have := router_new ⟨dw, dh, nn, 64, dr, di, db, de, da⟩ hchk 0 hNode v
    rw [show newRt (nn : Int).toNat (64 : Int).toNat 0 = U 0 from HG.nw] at this
    simpa [G.cfv, G.cfc] using this
  clear hchk hNode
  generalize hc2 : (⟨dw, dh, nn, 64, dr, di, db, de, da⟩ : G.Cf) = c2 at *
  clear hc2
  obtain ⟨k0, k1, k2, k3, k4, k5, k6, k7, k8⟩ := nine_cells X4.out.q
  go_wp2_with fail
  go_at_call 12
  with_reducible refine (WCd _).mono ?_
  rintro e w5 ⟨b, F0, rfl, nc, fc, bc⟩
  have L5 : Hid (RSt w4 w5 b c2 (U 0) F0) := show RSt w4 w5 b c2 _ F0 from ⟨nc, fc, bc⟩
  have X5 : Hid (Bx3 w w5 A #[.int .i64 dw, .int .i64 dh, .int .i64 (nn : Int), .int .i64 64, .int .i64 dr, .int .i64 di, .int .i64 db, .bool de, .bool da] #[.int .i64 s1, .bool cc1, .slice a1 n1 cap1, .string x1] #[.int .i64 s2, .bool cc2, .slice a2 n2 cap2, .string x2] 23 39 39) := X4.out.next bc
  clear WCd nc fc bc k0 k1 k2 k3 k4 k5 k6 k7 k8
  obtain ⟨p0, p1, p2, p3⟩ := four_cells X5.out.t
  obtain ⟨q0, q1, q2, q3⟩ := four_cells X5.out.p
  go_upto_region 9 with fail
  have C5 : Hid (GtS w4 (w5.alloc (.cells #[.int .i64 s1, .bool cc1, .slice a1 n1 cap1, .string x1, .int .i64 s2, .bool cc2, .slice a2 n2 cap2, .string x2] 39)) w5.heap.size #[.int .i64 s1, .bool cc1, .slice a1 n1 cap1, .string x1, .int .i64 s2, .bool cc2, .slice a2 n2 cap2, .string x2] b c2 (U 0) F0) := show GtS _ _ _ _ _ _ _ _ from ⟨L5.out.alloc _, Bk.new _ _ _, L5.out.off (Nat.le_refl _)⟩
  clear p0 p1 p2 p3 q0 q1 q2 q3 L5 X5
  generalize w5.alloc (.cells #[.int .i64 s1, .bool cc1, .slice a1 n1 cap1, .string x1, .int .i64 s2, .bool cc2, .slice a2 n2 cap2, .string x2] 39) = w6 at *
  generalize w5.heap.size = sb at *
  have HB4 : Hid (Below A w w4) := X4.out.b
  have HA4 : Hid (A ≤ w4.heap.size) := show A ≤ _ from by have := X4.out.lt; omega
  have HT4 : Hid (G.Tabs w4 ∧ G.Steps w4) := show _ ∧ _ from ⟨HT.out.1.next (by rw [HAW.out]; exact X4.out.b), HT.out.2.next (by rw [HAW.out]; exact X4.out.b)⟩
  clear X4 HT
  have HGT : Hid (GatF (telR c2 0) nn (fun i => (setP 0 (sP i)).ws) U Pt GG) := HG
  have hW : Hid (∀ i, i < 2 → 2 ≤ (setP 0 (sP i)).ws.length ∧ (setP 0 (sP i)).ws.length ≤ 17) := show _ from fun i hi => by
    have W := (setP_wds (FP i hi).1 (FP i hi).2 (v := 0) (by decide) (by decide)).1
    exact ⟨W.len, W.small⟩
  have FPH : Hid (∀ i, i < 2 → Fine (sP i) ∧ (sP i).c = false) := FP
  clear HG FP
  obtain ⟨M, hM⟩ : ∃ M : Nat → Nat, M = fun i => (setP 0 (sP i)).ws.length := ⟨_, rfl⟩
  obtain ⟨TT, hTT⟩ : ∃ T : Nat → Nat, T = fun i => if i = 0 then 0 else if i = 1 then M 0 else M 0 + M 1 := ⟨_, rfl⟩
  have HTT : Hid (∀ i, i < 2 → TT (i + 1) = TT i + M i ∧ TT i ≤ 17 ∧ 2 ≤ M i ∧ M i ≤ 17) := show _ from fun i hi => by
    have h0 := hW.out 0 (by decide)
    have h1 := hW.out 1 (by decide)
    rcases (show i = 0 ∨ i = 1 by omega) with rfl | rfl
    · rw [hTT, hM]
      simp only
      exact ⟨by simp, by simp, h0⟩
    · rw [hTT, hM]
      simp only
      exact ⟨by simp, by simpa using h0.2, h1⟩
  have HT2 : Hid (TT 2 = M 0 + M 1 ∧ TT 0 = 0) := show _ ∧ _ from by rw [hTT]; exact ⟨rfl, rfl⟩
  have HM : Hid (∀ i, (setP 0 (sP i)).ws.length = M i) := show _ from fun i => by rw [hM]
  clear hM hTT
  go_wp2_with fail
  go_loopw [9, 10] (fun xt xi wr => ∃ (i t : Nat) (F : Nat → Prop), i ≤ 2 ∧ xi = .int .i64 i ∧ xt = .int .i64 t ∧ t = TT i ∧ GtS w4 wr sb #[.int .i64 s1, .bool cc1, .slice a1 n1 cap1, .string x1, .int .i64 s2, .bool cc2, .slice a2 n2 cap2, .string x2] b c2 (U i) F) (fun _ xi _ => 2 - (RowKit.intOf xi).toNat)
  case atStart => exact ⟨0, 0, F0, by decide, rfl, rfl, HT2.out.2.symm, C5.out⟩
  case round =>
    obtain ⟨i, t, F, hi, rfl, rfl, ht, l⟩ := hrel
    clear C5
    have LI : Hid (GtS w4 wr sb #[.int .i64 s1, .bool cc1, .slice a1 n1 cap1, .string x1, .int .i64 s2, .bool cc2, .slice a2 n2 cap2, .string x2] b c2 (U i) F) := l
    have HTI : Hid (t = TT i) := ht
    clear l ht
    by_cases hex : i < 2
    case neg =>
      obtain rfl : i = 2 := by omega
      have e1 : ¬ ((2 : Nat) : Int) < 2 := by decide
      have h0 := HTT.out 0 (by decide)
      have h1 := HTT.out 1 (by decide)
      have ht2 : t = M 0 + M 1 := HTI.out.trans HT2.out.1
      obtain ⟨S1, o1, m1, sn0, S2, o2, m2, sn1, g11⟩ := HGT.out.fst
      have hn : 1 ≤ nn := by omega
      obtain ⟨y1, hy1⟩ : ∃ y, mvc o1 (nn / nn) (nn % nn) = y := ⟨_, rfl⟩
      have D1 : nn / nn = 1 := Nat.div_self (by omega)
      have D2 : nn % nn = 0 := Nat.mod_self nn
      have D3 : 2 * nn / nn = 2 := Nat.mul_div_cancel _ (by omega)
      have D4 : 2 * nn % nn = 0 := Nat.mul_mod_left 2 nn
      have C1 : Calls Tryz.prog 24 #[.pointer (some ⟨b, 0, none⟩), .int .i64 0, .func (.func 33) #[] #[]] wr fun e w' => ∃ F', e = .returned (.tuple #[.agg #[.int .i64 o1.port, .int .i64 o1.lane, .int .u64 (o1.word : Int), .bool o1.copy, .bool o1.ends, .int .i64 1, .int .i64 0], .bool true]) ∧ Rt w' b c2 S1 F' ∧ Gr F wr w' F' := by
        have := router_move LI.out.l.rt 0 _ _ _ (no_may wr)
        rw [m1, sn0] at this
        simp only [D1, D2] at this
        exact this
      have HGG : Hid (GG 1 1 S2) := g11
      have M2 : Hid (moveRt S1 0 (fun _ => false) = (S2, o2, 2 * nn, true) ∧ S1.n = nn) := show _ ∧ _ from ⟨m2, sn1⟩
      have HD : Hid (2 * nn / nn = 2 ∧ 2 * nn % nn = 0) := show _ ∧ _ from ⟨D3, D4⟩
      clear m1 sn0 m2 sn1 g11 hy1 y1 D1 D2 D3 D4 CE GC FPH h0 h1
      go_upto_region 26 with (go_at_call 24; with_reducible refine C1.mono ?_; rintro e v1 ⟨F1, rfl, n1', g1⟩)
      have L1 : Hid (RSt w4 (v1.alloc (.cells #[.int .i64 o1.port, .int .i64 o1.lane, .int .u64 (o1.word : Int), .bool o1.copy, .bool o1.ends, .int .i64 1, .int .i64 0] 63)) b c2 S1 F1) := (LI.out.l.step n1' g1).alloc _
      have A1 : Hid (Bk (v1.alloc (.cells #[.int .i64 o1.port, .int .i64 o1.lane, .int .u64 (o1.word : Int), .bool o1.copy, .bool o1.ends, .int .i64 1, .int .i64 0] 63)) v1.heap.size #[.int .i64 o1.port, .int .i64 o1.lane, .int .u64 (o1.word : Int), .bool o1.copy, .bool o1.ends, .int .i64 1, .int .i64 0] 63) := Bk.new _ _ _
      have O1 : Hid (¬ F1 v1.heap.size) := show ¬ F1 _ from (LI.out.l.step n1' g1).off (Nat.le_refl _)
      clear C1 LI n1' g1
      generalize v1.alloc (.cells #[.int .i64 o1.port, .int .i64 o1.lane, .int .u64 (o1.word : Int), .bool o1.copy, .bool o1.ends, .int .i64 1, .int .i64 0] 63) = u1 at *
      generalize v1.heap.size = ka at *
      have C2 : Calls Tryz.prog 24 #[.pointer (some ⟨b, 0, none⟩), .int .i64 0, .func (.func 33) #[] #[]] u1 fun e w' => ∃ F', e = .returned (.tuple #[.agg #[.int .i64 o2.port, .int .i64 o2.lane, .int .u64 (o2.word : Int), .bool o2.copy, .bool o2.ends, .int .i64 2, .int .i64 0], .bool true]) ∧ Rt w' b c2 S2 F' ∧ Gr F1 u1 w' F' := by
        have := router_move L1.out.rt 0 _ _ _ (no_may u1)
        rw [M2.out.1, M2.out.2] at this
        simp only [HD.out.1, HD.out.2] at this
        exact this
      clear M2 HD
      go_upto_region 27 with (go_at_call 24; with_reducible refine C2.mono ?_; rintro e v2 ⟨F2, rfl, n2', g2⟩)
      have L2 : Hid (RSt w4 (v2.alloc (.cells #[.int .i64 o2.port, .int .i64 o2.lane, .int .u64 (o2.word : Int), .bool o2.copy, .bool o2.ends, .int .i64 2, .int .i64 0] 63)) b c2 S2 F2) := (L1.out.step n2' g2).alloc _
      have A2 : Hid (Bk (v2.alloc (.cells #[.int .i64 o2.port, .int .i64 o2.lane, .int .u64 (o2.word : Int), .bool o2.copy, .bool o2.ends, .int .i64 2, .int .i64 0] 63)) v2.heap.size #[.int .i64 o2.port, .int .i64 o2.lane, .int .u64 (o2.word : Int), .bool o2.copy, .bool o2.ends, .int .i64 2, .int .i64 0] 63) := Bk.new _ _ _
      have O2 : Hid (¬ F2 v2.heap.size) := show ¬ F2 _ from (L1.out.step n2' g2).off (Nat.le_refl _)
      have B1 : Hid (Bk (v2.alloc (.cells #[.int .i64 o2.port, .int .i64 o2.lane, .int .u64 (o2.word : Int), .bool o2.copy, .bool o2.ends, .int .i64 2, .int .i64 0] 63)) ka #[.int .i64 o1.port, .int .i64 o1.lane, .int .u64 (o1.word : Int), .bool o1.copy, .bool o1.ends, .int .i64 1, .int .i64 0] 63) := (A1.out.gr g2 O1.out).alloc _
      have O3 : Hid (¬ F2 ka) := show ¬ F2 ka from g2.off O1.out A1.out.lt
      clear C2 L1 A1 O1 n2' g2
      generalize v2.alloc (.cells #[.int .i64 o2.port, .int .i64 o2.lane, .int .u64 (o2.word : Int), .bool o2.copy, .bool o2.ends, .int .i64 2, .int .i64 0] 63) = u2 at *
      generalize v2.heap.size = kb at *
      have hno := HGT.out.none 1 1 S2 (by have := HTT.out 0 (by decide); simp only [HM.out]; omega) (by have := HTT.out 1 (by decide); simp only [HM.out]; omega) HGG.out
      have C3 : Calls Tryz.prog 24 #[.pointer (some ⟨b, 0, none⟩), .int .i64 1, .func (.func 31) #[] #[]] u2 fun e w' => ∃ F', e = .returned (.tuple #[.agg #[.int .i64 0, .int .i64 0, .int .u64 0, .bool false, .bool false, .int .i64 0, .int .i64 0], .bool false]) ∧ Rt w' b c2 S2 F' ∧ Gr F2 u2 w' F' := by
        have := router_move L2.out.rt 1 _ _ _ (all_may u2)
        rw [hno.1] at this
        simp only [zko, Nat.zero_div, Nat.zero_mod] at this
        exact this
      clear hno
      go_upto_region 28 with (go_at_call 24; with_reducible refine C3.mono ?_; rintro e v3 ⟨F3, rfl, n3', g3⟩)
      have L3 : Hid (RSt w4 (v3.alloc (.cells #[.int .i64 0, .int .i64 0, .int .u64 0, .bool false, .bool false, .int .i64 0, .int .i64 0] 63)) b c2 S2 F3) := (L2.out.step n3' g3).alloc _
      have B2 : Bk (v3.alloc (.cells #[.int .i64 0, .int .i64 0, .int .u64 0, .bool false, .bool false, .int .i64 0, .int .i64 0] 63)) ka #[.int .i64 o1.port, .int .i64 o1.lane, .int .u64 (o1.word : Int), .bool o1.copy, .bool o1.ends, .int .i64 1, .int .i64 0] 63 := (B1.out.gr g3 O3.out).alloc _
      have B3 : Bk (v3.alloc (.cells #[.int .i64 0, .int .i64 0, .int .u64 0, .bool false, .bool false, .int .i64 0, .int .i64 0] 63)) kb #[.int .i64 o2.port, .int .i64 o2.lane, .int .u64 (o2.word : Int), .bool o2.copy, .bool o2.ends, .int .i64 2, .int .i64 0] 63 := (A2.out.gr g3 O2.out).alloc _
      clear C3 L2 A2 O2 B1 O3 n3' g3
      generalize v3.alloc (.cells #[.int .i64 0, .int .i64 0, .int .u64 0, .bool false, .bool false, .int .i64 0, .int .i64 0] 63) = u3 at *
      have a5 := B2.cell 5
      have b5 := B3.cell 5
      simp only [List.getElem?_toArray, List.getElem?_cons_zero, List.getElem?_cons_succ] at a5 b5
      clear B2 B3
      go_wp2_with fail
      clear a5 b5
      go_loopw [21] (fun x wr => ∃ (k i1 i2 : Nat) (S : RS) (F : Nat → Prop), 2 ≤ k ∧ k ≤ t ∧ x = .int .i64 k ∧ i1 ≤ M 0 ∧ i2 ≤ M 1 ∧ i1 + i2 = k ∧ GG i1 i2 S ∧ RSt w4 wr b c2 S F) (fun x _ => t - (RowKit.intOf x).toNat)
      case atStart => exact ⟨2, 1, 1, S2, F3, by decide, by have := HTT.out 0 (by decide); have := HTT.out 1 (by decide); omega, rfl, by have := HTT.out 0 (by decide); omega, by have := HTT.out 1 (by decide); omega, rfl, HGG.out, L3.out⟩
      case round =>
        obtain ⟨k, i1, i2, S, F4, hk2, hkt, rfl, h1, h2, h12, hg, l⟩ := hrel
        clear L3
        have LK : Hid (RSt w4 wr b c2 S F4) := l
        have HG4 : Hid (GG i1 i2 S) := hg
        have H12 : Hid (i1 ≤ M 0 ∧ i2 ≤ M 1 ∧ i1 + i2 = k) := show _ ∧ _ from ⟨h1, h2, h12⟩
        have HT9 : Hid (t = M 0 + M 1) := ht2
        have ht40 : t ≤ 34 := by have := HTT.out 0 (by decide); have := HTT.out 1 (by decide); omega
        clear l hg h1 h2 h12
        by_cases hex2 : k < t
        case neg =>
          obtain rfl : k = t := by omega
          have e2 : ¬ (k : Int) < (k : Int) := by omega
          have hI : idleRt S = true := by
            have a := H12.out
            have b := HT9.out
            obtain rfl : i1 = M 0 := by omega
            obtain rfl : i2 = M 1 := by omega
            exact HGT.out.fin S (by simp only [HM.out]; exact HG4.out)
          have C6 := router_idle LK.out.rt
          rw [hI] at C6
          clear hI
          go_wp2_with (go_at_call 32; with_reducible refine C6.mono ?_; rintro e v7 ⟨rfl, hb7⟩)
          go_ret
          exact ⟨rfl, by
            rw [HAW.out]
            exact HB4.out.trans ((LK.out.next hb7).below.mono HA4.out)⟩
        have e2 : (k : Int) < (t : Int) := by omega
        have e4 : IntKind.i64.wrap ((k : Int) + 1) = ((k + 1 : Nat) : Int) := by rw [IntWalk.i64_in _ (by omega)]; omega
        obtain ⟨S', o', kk, i1', i2', ms, sn, gs, q1, q2, q3⟩ := HGT.out.step i1 i2 S (by rw [HM.out]; exact H12.out.1) (by rw [HM.out]; exact H12.out.2.1) (by rw [HM.out, HM.out]; have := H12.out; omega) HG4.out
        simp only [HM.out] at q1 q2
        have C6 : Calls Tryz.prog 24 #[.pointer (some ⟨b, 0, none⟩), .int .i64 0, .func (.func 33) #[] #[]] wr fun e w' => ∃ (x5 x6 : Int) (F' : Nat → Prop), e = .returned (.tuple #[.agg #[.int .i64 o'.port, .int .i64 o'.lane, .int .u64 (o'.word : Int), .bool o'.copy, .bool o'.ends, .int .i64 x5, .int .i64 x6], .bool true]) ∧ Rt w' b c2 S' F' ∧ Gr F4 wr w' F' := by
          have := router_move LK.out.rt 0 _ _ _ (no_may wr)
          rw [ms] at this
          exact this.mono fun e w' ⟨F', h1, h2, h3⟩ => ⟨_, _, F', h1, h2, h3⟩
        have GS : Hid (GG i1' i2' S' ∧ i1' ≤ M 0 ∧ i2' ≤ M 1 ∧ i1' + i2' = k + 1) := show _ ∧ _ from ⟨gs, q1, q2, by have := H12.out; omega⟩
        clear ms sn gs q1 q2 q3
        go_upto_region 34 with (go_at_call 24; with_reducible refine C6.mono ?_; rintro e v7 ⟨x5, x6, F7, rfl, n7, g7⟩)
        have L7 : Hid (RSt w4 (v7.alloc (.cells #[.int .i64 o'.port, .int .i64 o'.lane, .int .u64 (o'.word : Int), .bool o'.copy, .bool o'.ends, .int .i64 x5, .int .i64 x6] 63)) b c2 S' F7) := (LK.out.step n7 g7).alloc _
        clear C6 LK n7 g7
        generalize v7.alloc (.cells #[.int .i64 o'.port, .int .i64 o'.lane, .int .u64 (o'.word : Int), .bool o'.copy, .bool o'.ends, .int .i64 x5, .int .i64 x6] 63) = u7 at *
        go_wp2
        go_roundw
        case rel => exact ⟨k + 1, i1', i2', S', F7, by omega, by omega, by go_num, GS.out.2.1, GS.out.2.2.1, GS.out.2.2.2, GS.out.1, L7.out⟩
        case measure => simp [RowKit.intOf]; omega
    have e1 : (i : Int) < 2 := by omega
    have e0 : (0 : Int) ≤ (i : Int) := by omega
    have e5 : IntKind.i64.wrap (1 + (i : Int)) = 1 + (i : Int) := IntWalk.i64_in _ (by omega)
    have E1 : ((1 + i : Nat) : Int) = 1 + (i : Int) := by omega
    have e6 : IntKind.i64.wrap ((i : Int) + 1) = ((i + 1 : Nat) : Int) := by rw [IntWalk.i64_in _ (by omega)]; omega
    obtain ⟨c0, c1, c2', c3⟩ := CE.out i wr sb hex LI.out.s
    obtain ⟨FPi, hPc⟩ := FPH.out i hex
    have GW0 := fun v hb => GC.out i v hex hb
    have HUT : Hid (∀ v, Below wr.heap.size wr v → Below A w v) := show _ from fun v hb => HB4.out.trans ((LI.out.l.below.trans (hb.mono LI.out.l.size)).mono HA4.out)
    obtain ⟨L, hL⟩ : ∃ L, (setP 0 (sP i)).ws = L := ⟨_, rfl⟩
    have hPut : Hid (∀ k, k < L.length → putRt (Pt i k) (1 + (i : Int)) 0 (L.getD k 0) = (Pt i (k + 1), 0)) := show _ from fun k hk => by
      have := HGT.out.put i k hex (by rw [hL]; exact hk)
      rwa [hL, E1] at this
    have hFind : Hid (findRt (telR c2 0) (Pt i L.length) (1 + (i : Int)) 0 0 = (U (i + 1), true)) := show _ = _ from by
      have := HGT.out.find i hex
      rwa [hL, E1] at this
    have hLM : Hid (L.length = M i) := show _ = _ from by rw [← hL]; exact HM.out i
    have hLt : Hid (∀ k, k < L.length → L.getD k 0 < 18446744073709551616) := show _ from fun k hk => (by rw [← hL]; exact (setP_wds FPi hPc (v := 0) (by decide) (by decide)).1.lt : ∀ x ∈ L, x < 18446744073709551616) _ (by rw [List.getD_eq_getElem?_getD, List.getElem?_eq_getElem hk]; exact List.getElem_mem _)
    have FD : Hid (Fine (setP 0 (sP i))) := setP_fine FPi (by decide) (by decide)
    have hlen := one_head FPi hPc
    clear FPi E1
    obtain ⟨P, hPP⟩ : ∃ P, sP i = P := ⟨_, rfl⟩
    rw [hPP] at FD hPc hlen hL GW0
    clear hPP
    obtain ⟨s', c', hs', x'⟩ := P
    simp only at hPc hlen
    subst hPc
    have HL1 : Hid (hs'.length = 1) := hlen
    clear hlen
    go_upto_region 14 with fail
    have D1 : Hid (Below wr.heap.size wr (wr.alloc (.cells #[.int .i64 (sS i), .bool (sC i), .slice (sA i) (sN i) (sK i), .string (sX i)] 39))) := (Below.refl _ _).alloc (Nat.le_refl _) _
    have P1 : Hid (Bk (wr.alloc (.cells #[.int .i64 (sS i), .bool (sC i), .slice (sA i) (sN i) (sK i), .string (sX i)] 39)) wr.heap.size #[.int .i64 (sS i), .bool (sC i), .slice (sA i) (sN i) (sK i), .string (sX i)] 39) := Bk.new _ _ _
    obtain ⟨PB, hPB⟩ : ∃ x, wr.heap.size = x := ⟨_, rfl⟩
    have HPB : Hid (wr.heap.size = PB) := hPB
    rw [hPB] at D1 P1 HUT
    generalize wr.alloc (.cells #[.int .i64 (sS i), .bool (sC i), .slice (sA i) (sN i) (sK i), .string (sX i)] 39) = v1 at *
    rw [hPB]
    clear c0 c1 c2' c3 hPB
    have p1 := P1.out.cell 1
    have z1 := P1.out.free 1
    simp only [List.getElem?_toArray, List.getElem?_cons_zero, List.getElem?_cons_succ] at p1
    go_upto_region 15 with fail
    have P2 : Hid (Bk (v1.setCell ⟨PB, 1, none⟩ (.bool false)) PB #[.int .i64 (sS i), .bool false, .slice (sA i) (sN i) (sK i), .string (sX i)] 39) := show Bk _ _ _ _ from by
      have := P1.out.set 1 (.bool false)
      simpa using this
    have D2 : Hid (Below PB wr (v1.setCell ⟨PB, 1, none⟩ (.bool false))) := D1.out.setCell (Nat.le_refl _) _
    clear P1 D1 p1 z1
    generalize v1.setCell ⟨PB, 1, none⟩ (.bool false) = v2 at *
    have GW := GW0 v2 (HUT.out v2 D2.out)
    clear GW0
    unfold PcN at GW
    dsimp only at GW
    rw [HL1.out] at GW
    obtain ⟨p0, p1, p2, p3⟩ := four_cells P2.out
    go_wp2_with fail
    go_at_call 29
    with_reducible refine GW.mono ?_
    rintro e v3 ⟨ra, rcap, rfl, hrc, rd3, b3, nw3⟩
    have P3 : Bk v3 PB #[.int .i64 (sS i), .bool false, .slice (sA i) (sN i) (sK i), .string (sX i)] 39 := P2.out.next b3
    obtain ⟨g, oo, hra, hg, cg, -⟩ := rd3.pair (k := 0) (by rw [HL1.out]; decide)
    subst hra
    obtain ⟨hgv, hgb⟩ := nw3 _ rfl
    rw [Nat.zero_mul, Nat.add_zero] at cg
    have hPg : PB < g := Nat.lt_of_lt_of_le P2.out.lt hgv
    have D3 : Below PB wr v3 := D2.out.trans (b3.mono (Nat.le_of_lt P2.out.lt))
    clear p0 p1 p2 p3 GW
    obtain ⟨p0, p1, p2, p3⟩ := four_cells P3
    have z0 := P3.free 0
    have z1 := P3.free 1
    have z2 := P3.free 2
    have z3 := P3.free 3
    go_upto_region 16 with fail
    have P4 : Hid (Bk ((((v3.setCell ⟨PB, 0, none⟩ (.int .i64 s')).setCell ⟨PB, 1, none⟩ (.bool false)).setCell ⟨PB, 2, none⟩ (.slice (some ⟨g, oo, none⟩) 1 rcap)).setCell ⟨PB, 3, none⟩ (.string x')) PB #[.int .i64 s', .bool false, .slice (some ⟨g, oo, none⟩) 1 rcap, .string x'] 39) := show Bk _ _ _ _ from by
      have := (((P3.set 0 (.int .i64 s')).set 1 (.bool false)).set 2 (.slice (some ⟨g, oo, none⟩) 1 rcap)).set 3 (.string x')
      simpa using this
    have D4 : Hid (Below PB wr ((((v3.setCell ⟨PB, 0, none⟩ (.int .i64 s')).setCell ⟨PB, 1, none⟩ (.bool false)).setCell ⟨PB, 2, none⟩ (.slice (some ⟨g, oo, none⟩) 1 rcap)).setCell ⟨PB, 3, none⟩ (.string x'))) := (((D3.setCell (Nat.le_refl _) _).setCell (Nat.le_refl _) _).setCell (Nat.le_refl _) _).setCell (Nat.le_refl _) _
    have cl : ∀ j, ((((v3.setCell ⟨PB, 0, none⟩ (.int .i64 s')).setCell ⟨PB, 1, none⟩ (.bool false)).setCell ⟨PB, 2, none⟩ (.slice (some ⟨g, oo, none⟩) 1 rcap)).setCell ⟨PB, 3, none⟩ (.string x')).cell? ⟨g, j, none⟩ = v3.cell? ⟨g, j, none⟩ := fun j => by
      rw [World.cell?_setCell_other _ _ _ _ (by intro c; simp only [Addr.mk.injEq] at c; omega), World.cell?_setCell_other _ _ _ _ (by intro c; simp only [Addr.mk.injEq] at c; omega), World.cell?_setCell_other _ _ _ _ (by intro c; simp only [Addr.mk.injEq] at c; omega), World.cell?_setCell_other _ _ _ _ (by intro c; simp only [Addr.mk.injEq] at c; omega)]
    have R4 : Hid (Rd ((((v3.setCell ⟨PB, 0, none⟩ (.int .i64 s')).setCell ⟨PB, 1, none⟩ (.bool false)).setCell ⟨PB, 2, none⟩ (.slice (some ⟨g, oo, none⟩) 1 rcap)).setCell ⟨PB, 3, none⟩ (.string x')) (some ⟨g, oo, none⟩) (pc hs')) := show Rd _ _ _ from fun j v hj => by
      obtain ⟨g9, o9, e9, h9, k9⟩ := rd3 j v hj
      cases e9
      exact ⟨g, oo, rfl, by simpa using h9, (cl _).trans k9⟩
    have G4 : Hid (∃ cs t, Bk ((((v3.setCell ⟨PB, 0, none⟩ (.int .i64 s')).setCell ⟨PB, 1, none⟩ (.bool false)).setCell ⟨PB, 2, none⟩ (.slice (some ⟨g, oo, none⟩) 1 rcap)).setCell ⟨PB, 3, none⟩ (.string x')) g cs t) := show ∃ cs t, Bk _ _ cs t from by
      obtain ⟨cs, t, h⟩ := hgb
      exact ⟨cs, t, (((h.far (by omega)).far (by omega)).far (by omega)).far (by omega)⟩
    have cg4 := (cl oo).trans cg
    clear p0 p1 p2 p3 z0 z1 z2 z3 P3 D3 b3 rd3 nw3 hgv hgb cl cg P2 D2 hg
    generalize (((v3.setCell ⟨PB, 0, none⟩ (.int .i64 s')).setCell ⟨PB, 1, none⟩ (.bool false)).setCell ⟨PB, 2, none⟩ (.slice (some ⟨g, oo, none⟩) 1 rcap)).setCell ⟨PB, 3, none⟩ (.string x') = v4 at *
    have p2 := P4.out.cell 2
    simp only [List.getElem?_toArray, List.getElem?_cons_zero, List.getElem?_cons_succ] at p2
    have zg : v4.frozen? ⟨g, oo, none⟩ = false := by obtain ⟨cs, t, h⟩ := G4.out; exact h.free oo
    have e9 : (0 : Int) < ((1 : Nat) : Int) := by decide
    go_upto_region 17 with fail
    have P5 : Hid (Bk (v4.setCell ⟨g, oo, none⟩ (.int .i64 0)) PB #[.int .i64 s', .bool false, .slice (some ⟨g, oo, none⟩) 1 rcap, .string x'] 39) := P4.out.far (by omega)
    have D5 : Hid (Below PB wr (v4.setCell ⟨g, oo, none⟩ (.int .i64 0))) := D4.out.setCell (by show PB ≤ g; omega) _
    have R5 : Rd (v4.setCell ⟨g, oo, none⟩ (.int .i64 0)) (some ⟨g, oo, none⟩) (pc (setP 0 ⟨s', false, hs', x'⟩).hs) := R4.out.first (by rw [HL1.out]; decide) 0
    have hlP : (setP 0 ⟨s', false, hs', x'⟩).hs.length = 1 := (List.length_set ..).trans HL1.out
    clear P4 D4 R4 G4 cg4 p2 zg hPg
    generalize v4.setCell ⟨g, oo, none⟩ (.int .i64 0) = v5 at *
    have WC := FD.out.rwords_new (some ⟨g, oo, none⟩) rcap v5 R5
    rw [hlP, hL] at WC
    simp only [pcv, pcc, show (setP 0 ⟨s', false, hs', x'⟩).s = s' from rfl, show (setP 0 ⟨s', false, hs', x'⟩).c = false from rfl, show (setP 0 ⟨s', false, hs', x'⟩).x = x' from rfl] at WC
    clear hL FD R5 hlP e9
    obtain ⟨p0, p1, p2, p3⟩ := four_cells P5.out
    go_upto_region 18 with (go_at_call 30; with_reducible refine WC.mono ?_; rintro e v6 ⟨la, lcap, rfl, hlc, rd6, b6, nw6⟩)
    have D6 : Below wr.heap.size wr v6 := by
      rw [HPB.out]
      exact D5.out.trans (b6.mono (Nat.le_of_lt P5.out.lt))
    have L6 : Hid (GtS w4 v6 sb #[.int .i64 s1, .bool cc1, .slice a1 n1 cap1, .string x1, .int .i64 s2, .bool cc2, .slice a2 n2 cap2, .string x2] b c2 (U i) F) := LI.out.next D6
    have R6 : Hid (Rd v6 la (vw L) ∧ Off F la) := show _ ∧ _ from ⟨rd6, fun x e hf => by
      have := nw6 x e
      have h1 := LI.out.l.rt.lt _ hf
      have h2 := P5.out.lt
      have h3 := HPB.out
      omega⟩
    clear p0 p1 p2 p3 WC rd6 nw6 b6 D6 P5 D5 LI HUT HPB HL1
    obtain ⟨m, hm⟩ : ∃ m, L.length = m := ⟨_, rfl⟩
    have HML : Hid (L.length = m) := hm
    rw [hm] at hPut hFind hLM hLt hlc ⊢
    clear hm
    have hm2 : 2 ≤ m ∧ m ≤ 17 := by
      have := HTT.out i hex
      have := hLM.out
      omega
    have ht17 : t ≤ 17 := by
      have := HTT.out i hex
      have := HTI.out
      omega
    go_wp2_with fail
    go_loopw [9, 14] (fun xt xk wv => ∃ (k u : Nat) (F' : Nat → Prop), k ≤ m ∧ xk = .int .i64 k ∧ xt = .int .i64 u ∧ u = t + k ∧ GtS w4 wv sb #[.int .i64 s1, .bool cc1, .slice a1 n1 cap1, .string x1, .int .i64 s2, .bool cc2, .slice a2 n2 cap2, .string x2] b c2 (Pt i k) F' ∧ Rd wv la (vw L) ∧ Off F' la) (fun _ xk _ => m - (RowKit.intOf xk).toNat)
    case atStart => exact ⟨0, t, F, Nat.zero_le _, rfl, rfl, rfl, by rw [HGT.out.p0 i hex]; exact L6.out, R6.out.1, R6.out.2⟩
    case round =>
      obtain ⟨k, u, F', hk, rfl, rfl, hu, l, rd, off⟩ := hrel
      clear L6 R6
      have LK : Hid (GtS w4 wr sb #[.int .i64 s1, .bool cc1, .slice a1 n1 cap1, .string x1, .int .i64 s2, .bool cc2, .slice a2 n2 cap2, .string x2] b c2 (Pt i k) F') := l
      have RK : Hid (Rd wr la (vw L) ∧ Off F' la) := show _ ∧ _ from ⟨rd, off⟩
      have HUK : Hid (u = t + k) := hu
      have hu2 : u ≤ 34 := by omega
      clear l rd off hu
      by_cases hex2 : k < m
      case neg =>
        obtain rfl : k = m := by omega
        have e2 : ¬ (k : Int) < (k : Int) := by omega
        have C1 : Calls Tryz.prog 20 #[.pointer (some ⟨b, 0, none⟩), .int .i64 (1 + (i : Int)), .int .i64 0, .int .i64 0] wr fun e w' => ∃ F'', e = .returned (.bool true) ∧ Rt w' b c2 (U (i + 1)) F'' ∧ Gr F' wr w' F'' := by
          have := router_find LK.out.l.rt (LK.out.l.tabs HT4.out.1) (LK.out.l.steps HT4.out.2) (1 + (i : Int)) 0 0 (by decide) (by decide)
          rw [HGT.out.pn, hFind.out] at this
          exact this
        go_wp2_with fail
        go_at_call 20
        with_reducible refine C1.mono ?_
        rintro e v7 ⟨F7, rfl, n7, g7⟩
        have L7 : Hid (GtS w4 v7 sb #[.int .i64 s1, .bool cc1, .slice a1 n1 cap1, .string x1, .int .i64 s2, .bool cc2, .slice a2 n2 cap2, .string x2] b c2 (U (i + 1)) F7) := LK.out.step n7 g7
        have HU7 : Hid (u = TT (i + 1)) := show u = _ from by
          have := HTT.out i hex
          have := hLM.out
          have := HTI.out
          have := HUK.out
          omega
        clear C1 LK RK n7 g7
        go_wp2
        go_roundw
        case rel => exact ⟨i + 1, u, F7, by omega, by go_num, rfl, HU7.out, L7.out⟩
        case measure => simp [RowKit.intOf]; omega
      obtain ⟨g2, o2, rfl, hg2, k0⟩ := RK.out.1 k _ (vw_at (by rw [HML.out]; exact hex2))
      have e2 : (k : Int) < (m : Int) := by omega
      have e3 : (0 : Int) ≤ (k : Int) := by omega
      have e4 : IntKind.i64.wrap ((k : Int) + 1) = ((k + 1 : Nat) : Int) := by rw [IntWalk.i64_in _ (by omega)]; omega
      have e7 : IntKind.i64.wrap ((u : Int) + 1) = ((u + 1 : Nat) : Int) := by rw [IntWalk.i64_in _ (by omega)]; omega
      have PC : Calls Tryz.prog 18 #[.pointer (some ⟨b, 0, none⟩), .int .i64 (1 + (i : Int)), .int .i64 0, .int .u64 ((L.getD k 0 : Nat) : Int)] wr fun e w' => ∃ F'', e = .returned (.int .i64 0) ∧ Rt w' b c2 (Pt i (k + 1)) F'' ∧ Gr F' wr w' F'' := by
        have := router_put LK.out.l.rt (1 + (i : Int)) 0 (L.getD k 0) (hLt.out k hex2)
        rw [hPut.out k hex2] at this
        exact this
      have HS : Hid (∀ w' F'', Rt w' b c2 (Pt i (k + 1)) F'' → Gr F' wr w' F'' → GtS w4 w' sb #[.int .i64 s1, .bool cc1, .slice a1 n1 cap1, .string x1, .int .i64 s2, .bool cc2, .slice a2 n2 cap2, .string x2] b c2 (Pt i (k + 1)) F'' ∧ Rd w' (some ⟨g2, o2, none⟩) (vw L) ∧ Off F'' (some ⟨g2, o2, none⟩)) := show _ from fun w' F'' n g => ⟨LK.out.step n g, RK.out.1.gr g RK.out.2, off_step RK.out.2 RK.out.1 (by rw [HML.out]; omega) g⟩
      obtain ⟨y, hy⟩ : ∃ y : Int, ((L.getD k 0 : Nat) : Int) = y := ⟨_, rfl⟩
      rw [hy] at k0 PC
      clear hy
      go_wp2_with fail
      go_at_call 18
      with_reducible refine PC.mono ?_
      rintro e v7 ⟨F7, rfl, n7, g7⟩
      have L7 : Hid (GtS w4 v7 sb #[.int .i64 s1, .bool cc1, .slice a1 n1 cap1, .string x1, .int .i64 s2, .bool cc2, .slice a2 n2 cap2, .string x2] b c2 (Pt i (k + 1)) F7 ∧ Rd v7 (some ⟨g2, o2, none⟩) (vw L) ∧ Off F7 (some ⟨g2, o2, none⟩)) := HS.out _ _ n7 g7
      clear PC HS n7 g7 k0 LK RK
      go_wp2
      go_roundw
      case rel => exact ⟨k + 1, u + 1, F7, by omega, by go_num, by go_num, by have := HUK.out; omega, L7.out.1, L7.out.2.1, L7.out.2.2⟩
      case measure => simp [RowKit.intOf]; omega
end Go.Proofs.YtmmegmonmilkcaaGreatDoor
