/-
  The walk of FairOnce.
-/
import Derived.Test.YtaeoglfpcbehdaaFSt
namespace Go.Proofs.Ytaeoglfpcbehdaa
open Go.RowKit

theorem Gb.two {b c : Nat} {w v : World} {B : Nat} (h : Below B w v) (hb : B ≤ b) (hc : B ≤ c) (x y : Value) : Below B w ((v.setCell ⟨b, 0, none⟩ x).setCell ⟨c, 0, none⟩ y) := (h.setCell hb _).setCell hc _
set_option maxRecDepth 100000 in
set_option maxHeartbeats 8000000 in
theorem cl_any {V : World} {bn bi bl bp bL : Nat} {a : Option Addr} {L : List Bool} {c : Nat} {i l N k : Nat}
    (hn : Bk V bn #[.int .i64 (i : Int)] 3) (hi : Bk V bi #[.bool true] 4) (hl : Bk V bl #[.int .i64 ((l : Int) - 1)] 3) (hp : Bk V bp #[.int .i64 (N : Int)] 3) (hL : Bk V bL #[.slice a L.length c] 34) (hr : Rd V a (vb L))
    (h0 : 0 < N) (hN : N ≤ 4096) (hll : l ≤ N) (hiN : i < N) (hk : (l + i) % N = k) (n1 : ¬ bn = bi) (n2 : ¬ bn = bl) (n3 : ¬ bn = bp) (n4 : ¬ bn = bL) (n5 : ¬ bi = bL) (hro : ∀ g o, 0 < L.length → a = some ⟨g, o, none⟩ → ¬ g = bn ∧ ¬ g = bi) :
    Calls Try.prog 22 #[.int .i64 (k : Int), .pointer (some ⟨bn, 0, none⟩), .pointer (some ⟨bi, 0, none⟩), .pointer (some ⟨bl, 0, none⟩), .pointer (some ⟨bp, 0, none⟩), .pointer (some ⟨bL, 0, none⟩)] V fun e w' => e = .returned (.bool (wl L k)) ∧ w' = (V.setCell ⟨bn, 0, none⟩ (.int .i64 ((i : Int) + 1))).setCell ⟨bi, 0, none⟩ (.bool true) := by
  have em : ((l : Int) - 1 + ((i : Int) + 1)) % (N : Int) = (k : Int) := by
    rw [← hk, Int.natCast_emod, Int.natCast_add, show (l : Int) - 1 + ((i : Int) + 1) = (l : Int) + (i : Int) by omega]
  have hk0 : (0 : Int) ≤ (k : Int) := by omega
  have q4 : ¬ N = 0 := by omega
  have c0 := hn.cell 0
  have z0 := hn.free 0
  simp only [List.getElem?_toArray, List.getElem?_cons_zero] at c0
  have S1 : Hid (Bk (V.setCell ⟨bn, 0, none⟩ (.int .i64 ((i : Int) + 1))) bn #[.int .i64 ((i : Int) + 1)] 3) := show Bk _ _ _ _ from by simpa using hn.set 0 (.int .i64 ((i : Int) + 1))
  have S2 : Hid (Bk (V.setCell ⟨bn, 0, none⟩ (.int .i64 ((i : Int) + 1))) bi #[.bool true] 4) := hi.far fun e => n1 e.symm
  have S3 : Hid (Bk (V.setCell ⟨bn, 0, none⟩ (.int .i64 ((i : Int) + 1))) bl #[.int .i64 ((l : Int) - 1)] 3) := hl.far fun e => n2 e.symm
  have S4 : Hid (Bk (V.setCell ⟨bn, 0, none⟩ (.int .i64 ((i : Int) + 1))) bp #[.int .i64 (N : Int)] 3) := hp.far fun e => n3 e.symm
  have S5 : Hid (Bk ((V.setCell ⟨bn, 0, none⟩ (.int .i64 ((i : Int) + 1))).setCell ⟨bi, 0, none⟩ (.bool true)) bL #[.slice a L.length c] 34) := (hL.far fun e => n4 e.symm).far fun e => n5 e.symm
  have RR : Hid (Rd ((V.setCell ⟨bn, 0, none⟩ (.int .i64 ((i : Int) + 1))).setCell ⟨bi, 0, none⟩ (.bool true)) a (vb L)) := show Rd _ _ _ from fun j v hj => by
    obtain ⟨g, o, e, hg, hc⟩ := hr j v hj
    obtain ⟨m1, m2⟩ := hro g o (by have := (List.getElem?_eq_some_iff.mp hj).1; rw [vb_len] at this; omega) e
    refine ⟨g, o, e, by simpa using hg, ?_⟩
    rw [World.cell?_of_block (Below.heap_setCell _ ⟨bi, 0, none⟩ _ g m2), World.cell?_of_block (Below.heap_setCell _ ⟨bn, 0, none⟩ _ g m1)]
    exact hc
  clear hn hi hl hp hL hr hro n2 n3 n4 n5 hk
  go_enter Try.func22, Try.ntmps22
  go_upto_region 2 with fail
  clear c0 z0
  generalize hV1 : V.setCell ⟨bn, 0, none⟩ (.int .i64 ((i : Int) + 1)) = V1 at *
  have HV1 : Hid (V.setCell ⟨bn, 0, none⟩ (.int .i64 ((i : Int) + 1)) = V1) := hV1
  clear hV1
  have c1 := S1.out.cell 0
  have c2 := S2.out.cell 0
  have c3 := S3.out.cell 0
  have c4 := S4.out.cell 0
  have z2 := S2.out.free 0
  simp only [List.getElem?_toArray, List.getElem?_cons_zero] at c1 c2 c3 c4
  go_upto_region 3 with fail
  clear c1 c2 c3 c4 z2
  generalize hV2 : V1.setCell ⟨bi, 0, none⟩ (.bool true) = V2 at *
  have HV2 : Hid (V1.setCell ⟨bi, 0, none⟩ (.bool true) = V2) := hV2
  clear hV2
  have c5 := S5.out.cell 0
  simp only [List.getElem?_toArray, List.getElem?_cons_zero] at c5
  by_cases hk : k < L.length
  · obtain ⟨g, o, rfl, hg, c6⟩ := RR.out.truth hk
    have e1 : (k : Int) < (L.length : Int) := by omega
    obtain ⟨x, hx⟩ : ∃ x, wl L k = x := ⟨_, rfl⟩
    rw [hx] at c6
    have HX : Hid (wl L k = x) := hx
    clear hx
    generalize L.length = n at *
    go_wp2
    go_ret
    exact ⟨by rw [HX.out]; rfl, by rw [HV1.out, HV2.out]⟩
  · have e1 : ¬ (k : Int) < (L.length : Int) := by omega
    have e2 : Hid (wl L k = false) := wl_out hk
    generalize L.length = n at *
    go_wp2
    go_ret
    exact ⟨by rw [e2.out]; rfl, by rw [HV1.out, HV2.out]⟩
theorem cl_ent : Ent 22 := enters_of Try.func22 (by kernel_rfl) rfl

set_option maxRecDepth 100000 in
set_option maxHeartbeats 16000000 in
theorem once_law (pl tu : Int) (L : List Bool) (a : Option Addr) (c : Nat) (w : World) (hr : Rd w a (vb L)) (hm : L.length ≤ maxLen) :
    Calls Try.prog 5 #[.int .i64 pl, .slice a L.length c, .int .i64 tu] w fun e w' => e = .returned (.bool true) ∧ Below w.heap.size w w' := by
  obtain ⟨k1, k2⟩ := rst_in pl (m := 12) (by decide) (by decide)
  obtain ⟨t1, t2⟩ := rst_in tu (m := 15) (by decide) (by decide)
  replace k2 : wrap64 ((IntKind.u64.wrap pl).tmod 12) = ((rst pl 12 : Nat) : Int) := (IntWalk.i64_left _).symm.trans k2
  replace t2 : wrap64 ((IntKind.u64.wrap tu).tmod 15) = ((rst tu 15 : Nat) : Int) := (IntWalk.i64_left _).symm.trans t2
  generalize rst pl 12 = pk at *
  generalize rst tu 15 = T at *
  obtain ⟨N, hN⟩ : ∃ N : Nat, 1 + pk = N := ⟨_, rfl⟩
  have k3 : (1 : Int) + (pk : Int) = (N : Int) := by omega
  have h0 : 0 < N := by omega
  have h12 : N ≤ 12 := by omega
  clear hN k1
  have q4 : ¬ N = 0 := by omega
  have NC := fun v => new_any (N : Int) v
  have HR : Hid (Rd w a (vb L)) := hr
  have X0 : Hid (Below w.heap.size w ((w.alloc (.cells #[.int .i64 pl] 3)).alloc (.cells #[.slice a L.length c] 34))) := ((Below.refl _ _).alloc (Nat.le_refl _) _).alloc (by simp) _
  have P0 : Hid (Bk ((w.alloc (.cells #[.int .i64 pl] 3)).alloc (.cells #[.slice a L.length c] 34)) w.heap.size #[.int .i64 pl] 3) := (Bk.new _ _ _).alloc _
  have L0 : Hid (Bk ((w.alloc (.cells #[.int .i64 pl] 3)).alloc (.cells #[.slice a L.length c] 34)) (w.heap.size + 1) #[.slice a L.length c] 34) := show Bk _ _ _ _ from by
    have := Bk.new (w.alloc (.cells #[.int .i64 pl] 3)) #[.slice a L.length c] 34
    rwa [show (w.alloc (.cells #[.int .i64 pl] 3)).heap.size = w.heap.size + 1 by simp] at this
  have LV := lives_any ((w.alloc (.cells #[.int .i64 pl] 3)).alloc (.cells #[.slice a L.length c] 34))
  clear hr
  go_enter Try.func5, Try.ntmps5
  go_upto_region 1 with fail
  generalize (w.alloc (.cells #[.int .i64 pl] 3)).alloc (.cells #[.slice a L.length c] 34) = v0 at *
  obtain ⟨bp, hbp⟩ : ∃ b, w.heap.size = b := ⟨_, rfl⟩
  have HBP : Hid (w.heap.size = bp) := hbp
  rw [hbp] at X0 P0 L0 ⊢
  obtain ⟨bL, hbL⟩ : ∃ b, bp + 1 = b := ⟨_, rfl⟩
  rw [hbL] at L0 ⊢
  have hpL : bp ≤ bL := by omega
  have hneP : ¬ bp = bL := by omega
  clear hbp hbL
  go_wp2_with fail
  go_at_call 9
  with_reducible refine LV.mono ?_
  rintro e w1 ⟨rfl, hb1⟩
  have X1 : Hid (Below bp w w1) := X0.out.trans (hb1.mono (Nat.le_of_lt P0.out.lt))
  have P1 : Hid (Bk w1 bp #[.int .i64 pl] 3) := P0.out.next hb1
  have L1 : Hid (Bk w1 bL #[.slice a L.length c] 34) := L0.out.next hb1
  clear LV hb1 X0 P0 L0
  have c0 := P1.out.cell 0
  have z0 := P1.out.free 0
  simp only [List.getElem?_toArray, List.getElem?_cons_zero] at c0
  have X2 : Hid (Below bp w (w1.setCell ⟨bp, 0, none⟩ (.int .i64 (N : Int)))) := X1.out.setCell (Nat.le_refl _) _
  have P2 : Hid (Bk (w1.setCell ⟨bp, 0, none⟩ (.int .i64 (N : Int))) bp #[.int .i64 (N : Int)] 3) := show Bk _ _ _ _ from by simpa using P1.out.set 0 (.int .i64 (N : Int))
  have L2 : Hid (Bk (w1.setCell ⟨bp, 0, none⟩ (.int .i64 (N : Int))) bL #[.slice a L.length c] 34) := L1.out.far fun e => hneP e.symm
  go_upto_region 4 with fail
  clear c0 z0 X1 P1 L1
  generalize w1.setCell ⟨bp, 0, none⟩ (.int .i64 (N : Int)) = w2 at *
  have c0 := P2.out.cell 0
  simp only [List.getElem?_toArray, List.getElem?_cons_zero] at c0
  go_wp2_with fail
  go_at_call 10
  with_reducible refine (NC _).mono ?_
  rintro e w' ⟨rfl, rfl⟩
  have KA : Hid (Fb (w2.alloc (.cells (oc (N : Int) 0) 48)) w2.heap.size N 0) := Fb.new _ (clamp_id h0 (by omega))
  have P3 : Hid (Bk (w2.alloc (.cells (oc (N : Int) 0) 48)) bp #[.int .i64 (N : Int)] 3) := P2.out.alloc _
  have L3 : Hid (Bk (w2.alloc (.cells (oc (N : Int) 0) 48)) bL #[.slice a L.length c] 34) := L2.out.alloc _
  have X3 : Hid (Below bp w (w2.alloc (.cells (oc (N : Int) 0) 48))) := X2.out.alloc (Nat.le_of_lt P2.out.lt) _
  have hbb : bp < w2.heap.size := P2.out.lt
  have hbb2 : bL < w2.heap.size := L2.out.lt
  clear NC P2 L2 X2 c0
  generalize w2.alloc (.cells (oc (N : Int) 0) 48) = w3 at *
  obtain ⟨b, hb⟩ : ∃ b, w2.heap.size = b := ⟨_, rfl⟩
  rw [hb] at KA hbb hbb2 ⊢
  clear hb
  have NXT : Hid (∀ V l, l ≤ N → Fb V b N l → Calls Try.prog 19 #[.pointer (some ⟨b, 0, none⟩), .func (.func 21) #[] #[]] V fun e w' => ∃ k is l2, l2 ≤ N ∧ e = .returned (.tuple #[.int .i64 k, .bool is]) ∧ Fb w' b N l2 ∧ Gb b V w') := show _ from fun V l hl h => by
    refine (next_grows all_ent h0 (by omega) hl h (all_grows N V)).mono ?_
    rintro e w' ⟨rfl, h1, h2⟩
    exact ⟨_, _, _, nxtl_le h0 hl, rfl, h1, h2⟩
  go_wp2_with fail
  go_loopw [8] (fun x wr => ∃ j l : Nat, j ≤ T ∧ x = .int .i64 j ∧ l ≤ N ∧ Fb wr b N l ∧ Bk wr bp #[.int .i64 (N : Int)] 3 ∧ Bk wr bL #[.slice a L.length c] 34 ∧ Below bp w wr) (fun x _ => T - (RowKit.intOf x).toNat)
  case atStart => exact ⟨0, 0, Nat.zero_le _, rfl, Nat.zero_le _, KA.out, P3.out, L3.out, X3.out⟩
  case round =>
    obtain ⟨j, l, hj, rfl, hl, ka, kp, kl, y⟩ := hrel
    clear KA P3 L3 X3
    have KA : Hid (Fb wr b N l) := ka
    have KP : Hid (Bk wr bp #[.int .i64 (N : Int)] 3) := kp
    have KL : Hid (Bk wr bL #[.slice a L.length c] 34) := kl
    have Y : Hid (Below bp w wr) := y
    clear ka kp kl y
    by_cases hlt : j < T
    · have e4 : (j : Int) < (T : Int) := by omega
      have NC := NXT.out wr l hl KA.out
      go_wp2_with (go_at_call 19; (with_reducible refine NC.mono ?_); rintro e w5 ⟨k', is', l2, hl2, rfl, k5, g5⟩)
      exact ⟨⟨j + 1, l2, by omega, by go_num, hl2, k5, KP.out.gb g5 (by omega), KL.out.gb g5 (by omega), g5.up Y.out (Nat.le_of_lt hbb) (Nat.le_of_lt KP.out.lt)⟩, by simp [RowKit.intOf]; omega⟩
    have e4 : ¬ (j : Int) < (T : Int) := by omega
    clear NXT hlt
    generalize wr = w5 at *
    have LC := last_any KA.out
    obtain ⟨z, hz⟩ : ∃ z, (l : Int) - 1 = z := ⟨_, rfl⟩
    rw [hz] at LC
    go_upto_region 12 with (go_at_call 16; (with_reducible refine LC.mono ?_); rintro e w' ⟨rfl, rfl⟩)
    have e1 : (w5.alloc (.cells #[.int .i64 z] 3)).heap.size = w5.heap.size + 1 := by simp
    have e2 : ((w5.alloc (.cells #[.int .i64 z] 3)).alloc (.cells #[.int .i64 0] 3)).heap.size = w5.heap.size + 1 + 1 := by simp
    have QL : Hid (Bk (((w5.alloc (.cells #[.int .i64 z] 3)).alloc (.cells #[.int .i64 0] 3)).alloc (.cells #[.bool true] 4)) w5.heap.size #[.int .i64 z] 3) := ((Bk.new _ _ _).alloc _).alloc _
    have QN : Hid (Bk (((w5.alloc (.cells #[.int .i64 z] 3)).alloc (.cells #[.int .i64 0] 3)).alloc (.cells #[.bool true] 4)) (w5.heap.size + 1) #[.int .i64 0] 3) := show Bk _ _ _ _ from by
      have := (Bk.new (w5.alloc (.cells #[.int .i64 z] 3)) #[.int .i64 0] 3).alloc (.cells #[.bool true] 4)
      rwa [e1] at this
    have QI : Hid (Bk (((w5.alloc (.cells #[.int .i64 z] 3)).alloc (.cells #[.int .i64 0] 3)).alloc (.cells #[.bool true] 4)) (w5.heap.size + 1 + 1) #[.bool true] 4) := show Bk _ _ _ _ from by
      have := Bk.new ((w5.alloc (.cells #[.int .i64 z] 3)).alloc (.cells #[.int .i64 0] 3)) #[.bool true] 4
      rwa [e2] at this
    have KA6 : Hid (Fb (((w5.alloc (.cells #[.int .i64 z] 3)).alloc (.cells #[.int .i64 0] 3)).alloc (.cells #[.bool true] 4)) b N l) := ((KA.out.alloc _).alloc _).alloc _
    have KP6 : Hid (Bk (((w5.alloc (.cells #[.int .i64 z] 3)).alloc (.cells #[.int .i64 0] 3)).alloc (.cells #[.bool true] 4)) bp #[.int .i64 (N : Int)] 3) := ((KP.out.alloc _).alloc _).alloc _
    have KL6 : Hid (Bk (((w5.alloc (.cells #[.int .i64 z] 3)).alloc (.cells #[.int .i64 0] 3)).alloc (.cells #[.bool true] 4)) bL #[.slice a L.length c] 34) := ((KL.out.alloc _).alloc _).alloc _
    have hz1 : bp < w5.heap.size := KP.out.lt
    have hz2 : bL < w5.heap.size := KL.out.lt
    have hz3 : b < w5.heap.size := KA.out.lt
    have Y6 : Hid (Below bp w (((w5.alloc (.cells #[.int .i64 z] 3)).alloc (.cells #[.int .i64 0] 3)).alloc (.cells #[.bool true] 4))) := ((Y.out.alloc (by omega) _).alloc (by rw [e1]; omega) _).alloc (by rw [e2]; omega) _
    clear LC KA KP KL Y e1 e2
    generalize ((w5.alloc (.cells #[.int .i64 z] 3)).alloc (.cells #[.int .i64 0] 3)).alloc (.cells #[.bool true] 4) = w6 at *
    obtain ⟨bl, hbl⟩ : ∃ b, w5.heap.size = b := ⟨_, rfl⟩
    rw [hbl] at QL QN QI hz1 hz2 hz3 ⊢
    obtain ⟨bn, hbn⟩ : ∃ b, bl + 1 = b := ⟨_, rfl⟩
    rw [hbn] at QN QI ⊢
    obtain ⟨bi, hbi⟩ : ∃ b, bn + 1 = b := ⟨_, rfl⟩
    rw [hbi] at QI ⊢
    have hn1 : ¬ bn = bi := by omega
    have hn2 : ¬ bn = bl := by omega
    have hn3 : ¬ bn = bp := by omega
    have hn4 : ¬ bn = bL := by omega
    have hn5 : ¬ bi = bL := by omega
    have hn6 : ¬ bi = bl := by omega
    have hn7 : ¬ bi = bp := by omega
    have hn8 : ¬ bi = b := by omega
    have hn9 : ¬ bn = b := by omega
    have hpn : bp ≤ bn := by omega
    have hpi : bp ≤ bi := by omega
    clear hbl hbn hbi
    have SC := see_any 22 #[.pointer (some ⟨bn, 0, none⟩), .pointer (some ⟨bi, 0, none⟩), .pointer (some ⟨bl, 0, none⟩), .pointer (some ⟨bp, 0, none⟩), .pointer (some ⟨bL, 0, none⟩)] cl_ent N l h0 (by omega) hl (wl L)
      (fun i V => Bk V bn #[.int .i64 (i : Int)] 3 ∧ Bk V bi #[.bool true] 4 ∧ Bk V bl #[.int .i64 z] 3 ∧ Bk V bp #[.int .i64 (N : Int)] 3 ∧ Bk V bL #[.slice a L.length c] 34 ∧ Fb V b N l ∧ Below bp w V) b w6 KA6.out
      (fun _ _ _ h hb => ⟨h.1.below hb QN.out.lt, h.2.1.below hb QI.out.lt, h.2.2.1.below hb QL.out.lt, h.2.2.2.1.below hb KP6.out.lt, h.2.2.2.2.1.below hb KL6.out.lt, h.2.2.2.2.2.1.below hb KA6.out.lt, h.2.2.2.2.2.2.trans (hb.mono (Nat.le_of_lt KP6.out.lt))⟩)
      (fun i V hiN _ h => by
        obtain ⟨g1, g2, g3, g4, g5, g6, g7⟩ := h
        have hrw : Rd V a (vb L) := HR.out.below (by rw [HBP.out]; exact g7)
        rw [← hz] at g3
        refine (cl_any g1 g2 g3 g4 g5 hrw h0 (by omega) hl hiN rfl hn1 hn2 hn3 hn4 hn5 (fun g o hpos e => ?_)).mono ?_
        · obtain ⟨g', o', e', hg', _⟩ := HR.out.truth hpos
          rw [e] at e'
          simp only [Option.some.injEq, Addr.mk.injEq] at e'
          obtain ⟨rfl, -, -⟩ := e'
          have := HBP.out
          omega
        · rintro e w' ⟨rfl, rfl⟩
          rw [hz] at g3
          refine ⟨rfl, ⟨?_, ?_, (g3.far fun e => hn2 e.symm).far fun e => hn6 e.symm, (g4.far fun e => hn3 e.symm).far fun e => hn7 e.symm, (g5.far fun e => hn4 e.symm).far fun e => hn5 e.symm, (g6.far fun e => hn9 e.symm).far fun e => hn8 e.symm, (g7.setCell hpn _).setCell hpi _⟩, by simp, fun q hq _ => ?_⟩
          · have := (g1.set 0 (.int .i64 ((i : Int) + 1))).far (k := bi) (j := 0) (x := .bool true) hn1
            simpa using this
          · have := (g2.far (k := bn) (j := 0) (x := .int .i64 ((i : Int) + 1)) (fun e => hn1 e.symm)).set 0 (.bool true)
            simpa using this
          · have hqn : q ≠ bn := by have := QN.out.lt; omega
            have hqi : q ≠ bi := by have := QI.out.lt; omega
            rw [Below.heap_setCell _ ⟨bi, 0, none⟩ _ q hqi, Below.heap_setCell _ ⟨bn, 0, none⟩ _ q hqn])
      ⟨QN.out, QI.out, QL.out, KP6.out, KL6.out, KA6.out, Y6.out⟩
    have HAY : Hid ((ask N l (wl L)).2 = (List.range N).any (wl L)) := ask_any h0 hl
    have HAZ : Hid ((ask N l (wl L)).2 = false → (ask N l (wl L)).1 = 0) := ask_zero
    generalize ask N l (wl L) = q at *
    obtain ⟨k, is⟩ := q
    clear QN QI QL KP6 KL6 KA6 Y6
    go_upto_region 13 with (go_at_call 13; (with_reducible refine SC.mono ?_); rintro e w7 ⟨rfl, n, ⟨g1, g2, g3, g4, g5, g6, g7⟩, hn1', hnN, hkt, hkf⟩)
    have hr7 : Rd w7 a (vb L) := HR.out.below (by rw [HBP.out]; exact g7)
    have TR : Hid (∀ i, i < L.length → ∃ g o, a = some ⟨g, o, none⟩ ∧ g < w7.heap.size ∧ w7.cell? ⟨g, o + i, none⟩ = some (.bool (wl L i))) := show _ from fun i hi => hr7.truth hi
    have AS : Hid (∀ i, ((List.range i).any (wl L) || wl L i) = (List.range (i + 1)).any (wl L)) := show _ from any_snoc (wl L)
    have AE : Hid (∀ i, i ≤ N → (i = L.length ∨ i = N) → (List.range i).any (wl L) = is) := show _ from fun i hi h => by
      have := HAY.out
      rw [this]
      rcases h with rfl | rfl
      · exact any_up hi (fun k hk => wl_out (by omega))
      · rfl
    have A0 : Hid ((List.range 0).any (wl L) = false) := show _ from by rfl
    generalize hAN : (fun i => (List.range i).any (wl L)) = AN at *
    have hAN' : ∀ i, (List.range i).any (wl L) = AN i := fun i => congrFun hAN i
    have AS2 : Hid (∀ i, (AN i || wl L i) = AN (i + 1)) := show _ from fun i => by rw [← hAN', ← hAN']; exact AS.out i
    have AE2 : Hid (∀ i, i ≤ N → (i = L.length ∨ i = N) → AN i = is) := show _ from fun i h1 h2 => by rw [← hAN']; exact AE.out i h1 h2
    have A02 : Hid (AN 0 = false) := show _ from by rw [← hAN']; exact A0.out
    clear hAN hAN' AS AE A0 HAY hr7 SC
    generalize wl L = WL at *
    generalize L.length = m at *
    unfold maxLen at hm
    have c1 := g4.cell 0
    have c2 := g5.cell 0
    simp only [List.getElem?_toArray, List.getElem?_cons_zero] at c1 c2
    go_wp2_with fail
    go_loopw [14, 15] (fun s x wr => ∃ i : Nat, i ≤ m ∧ i ≤ N ∧ x = .int .i64 i ∧ s = .bool (AN i) ∧ w7 = wr) (fun _ x _ => N - (RowKit.intOf x).toNat)
    case atStart => exact ⟨0, Nat.zero_le _, Nat.zero_le _, rfl, by rw [A02.out], rfl⟩
    case round =>
      obtain ⟨i, him, hiN, rfl, rfl, rfl⟩ := hrel
      have e0 : (0 : Int) ≤ (i : Int) := by omega
      by_cases hex : i < m ∧ i < N
      · have f1 : (i : Int) < (m : Int) := by omega
        have f2 : (i : Int) < (N : Int) := by omega
        obtain ⟨g, o, rfl, -, c3⟩ := TR.out i hex.1
        have hs := AS2.out i
        cases hA : AN i
        · have HS : Hid (WL i = AN (i + 1)) := show _ from by rw [hA, Bool.false_or] at hs; exact hs
          clear hs hA
          generalize WL i = X at *
          go_wp2
          exact ⟨⟨i + 1, by omega, by omega, by go_num, by rw [← HS.out], by first | rfl | trivial⟩, by simp [RowKit.intOf]; omega⟩
        · have HS : Hid (true = AN (i + 1)) := show _ from by rw [hA, Bool.true_or] at hs; exact hs
          clear hs hA
          go_wp2
          exact ⟨⟨i + 1, by omega, by omega, by go_num, by rw [← HS.out], by first | rfl | trivial⟩, by simp [RowKit.intOf]; omega⟩
      have hA := AE2.out i hiN (by omega)
      clear AE2 AS2 A02 TR
      have c4 := g1.cell 0
      have c5 := g2.cell 0
      have c6 := g3.cell 0
      simp only [List.getElem?_toArray, List.getElem?_cons_zero] at c4 c5 c6
      have LC := fun n => last_any (g6.drewN n)
      simp only [hz] at LC
      have f6 : (n : Int) ≤ (N : Int) := by omega
      rw [hA]
      clear hA
      by_cases hi1 : i < m
      · have f1 : (i : Int) < (m : Int) := by omega
        have f2 : ¬ (i : Int) < (N : Int) := by omega
        have HAZ2 := HAZ.out
        clear HAZ
        cases is
        · obtain rfl : n = N := hkf rfl
          have hk0 : k = 0 := HAZ2 rfl
          subst hk0
          clear hkt hkf HAZ2
          go_wp2_with fail
          go_quiet ((go_at_call 16; exact Calls.quiet_of_same ((LC _).mono fun _ _ h => ⟨h.1, h.2.symm⟩)))
          go_wp2
          go_ret
          exact ⟨rfl, by rw [HBP.out]; exact dn g7 _⟩
        · have hk2 : k = (l + (n - 1)) % N := hkt rfl
          have em : (z + (n : Int)) % (N : Int) = (k : Int) := by
            rw [hk2, Int.natCast_emod, ← hz]
            congr 1
            omega
          clear hkt hkf HAZ2 hk2
          go_wp2_with fail
          go_quiet ((go_at_call 16; exact Calls.quiet_of_same ((LC _).mono fun _ _ h => ⟨h.1, h.2.symm⟩)))
          go_wp2
          go_ret
          exact ⟨rfl, by rw [HBP.out]; exact dn g7 _⟩
      · have f1 : ¬ (i : Int) < (m : Int) := by omega
        have HAZ2 := HAZ.out
        clear HAZ
        cases is
        · obtain rfl : n = N := hkf rfl
          have hk0 : k = 0 := HAZ2 rfl
          subst hk0
          clear hkt hkf HAZ2
          go_wp2_with fail
          go_quiet ((go_at_call 16; exact Calls.quiet_of_same ((LC _).mono fun _ _ h => ⟨h.1, h.2.symm⟩)))
          go_wp2
          go_ret
          exact ⟨rfl, by rw [HBP.out]; exact dn g7 _⟩
        · have hk2 : k = (l + (n - 1)) % N := hkt rfl
          have em : (z + (n : Int)) % (N : Int) = (k : Int) := by
            rw [hk2, Int.natCast_emod, ← hz]
            congr 1
            omega
          clear hkt hkf HAZ2 hk2
          go_wp2_with fail
          go_quiet ((go_at_call 16; exact Calls.quiet_of_same ((LC _).mono fun _ _ h => ⟨h.1, h.2.symm⟩)))
          go_wp2
          go_ret
          exact ⟨rfl, by rw [HBP.out]; exact dn g7 _⟩
end Go.Proofs.Ytaeoglfpcbehdaa
