/-
  The law of what a nic refuses: its walk. (Written by gen_nref.py.)
-/
import Derived.Test.YtoejpngdkcnnhaaGreatNcRf
import Derived.Test.YtoejpngdkcnnhaaGreatNcLives
import Derived.Test.YtoejpngdkcnnhaaGreatNcBack
namespace Go.Proofs.YtoejpngdkcnnhaaGreat
open Go.RowKit

theorem below_set {w v : World} {k : Nat} (h : Below w.heap.size w v) (hk : w.heap.size ≤ k) (j : Nat) (x : Value) : Below w.heap.size w (v.setCell ⟨k, j, none⟩ x) :=
  h.trans ⟨rfl, rfl, rfl, by simp, fun i hi => Below.heap_setCell _ ⟨k, j, none⟩ _ i (by show i ≠ k; omega)⟩
theorem no_cast {c : G.Cf} (f : G.Fits c) (h4 : c.w ≤ 4) (h5 : c.h ≤ 4) : G.Fits { c with ca := false } ∧ G.chk { c with ca := false } = 0 ∧ G.isN { c with ca := false } 0 = true ∧ 1 ≤ G.nod { c with ca := false } ∧ G.nod { c with ca := false } ≤ 16 := by
  have f' : G.Fits { c with ca := false } := ⟨f.w1, f.w2, f.h1, f.h2, f.l1, f.l2, fun h => (by cases h), f.d1, f.d2, f.r1, f.r2, f.i1, f.i2, f.b1, f.b2⟩
  have hk := G.chk_fits f'
  have hn : G.nod { c with ca := false } = c.w * c.h := by unfold G.nod; rw [if_pos hk]
  have hm := G.mul_in f.w1 f.w2 f.h1 f.h2
  have hm2 : c.w * c.h ≤ 4 * 4 := Int.mul_le_mul h4 h5 (by have := f.h1; omega) (by decide)
  refine ⟨f', hk, ?_, by omega, by omega⟩
  unfold G.isN
  rw [hn]
  simp
  omega
/-- What the sendings of this law come to. -/
theorem ref_facts {c : G.Cf} (hca : c.ca = false) (hl : 1 ≤ c.l) (hk : G.chk c = 0) (hn : G.nod c ≤ 16) (hn1 : 1 ≤ G.nod c) {gs u q : Int} {gx : ByteArray} (hok : Pc.okB ⟨gs, false, [(u, q)], gx⟩ = true) {nv : Int} (hv : G.isN c nv = true) (st lf : Int) :
    Pc.okB ⟨0, false, [(nv, q)], gx⟩ = true ∧ sendE ⟨c, 0, st, lf⟩ ⟨0, false, [(nv, q)], gx⟩ = 0 ∧ sendE ⟨c, 0, st, lf⟩ ⟨1, false, [(nv, q)], gx⟩ = 5 ∧ sendE ⟨c, 0, st, lf⟩ ⟨0, false, [(G.nod c, 0)], gx⟩ = 5 ∧ sendE ⟨c, 0, st, lf⟩ ⟨0, true, [(nv, q)], gx⟩ = 10 ∧ sendE ⟨c, 0, st, lf⟩ ⟨0, false, [], ByteArray.empty⟩ = 1 := by
  obtain ⟨-, -, ok3, ok4⟩ := (ok_iff _).1 hok
  simp only [List.mem_singleton, forall_eq] at ok4
  obtain ⟨-, -, q1, q2⟩ := (headOk_iff _).1 ok4
  simp only at ok3 q1 q2
  have hv' := hv
  unfold G.isN at hv'
  simp only [Bool.and_eq_true, decide_eq_true_eq] at hv'
  have mk : ∀ (s : Int) (c' : Bool) (n z : Int), 0 ≤ s → s ≤ 4095 → 0 ≤ n → n ≤ 4095 → 0 ≤ z → z ≤ 65535 → Pc.okB ⟨s, c', [(n, z)], gx⟩ = true := fun s c' n z h1 h2 h3 h4 h5 h6 => by
    rw [ok_iff]
    refine ⟨⟨h1, h2⟩, ⟨by simp, by simp, Or.inr rfl⟩, ok3, fun h hh => ?_⟩
    simp only [List.mem_singleton] at hh
    subst hh
    rw [headOk_iff]
    exact ⟨h3, h4, h5, h6⟩
  have hth : thr c [(nv, q)] = true := by unfold thr; simp [hv]
  have hth2 : thr c [(G.nod c, 0)] = false := by
    unfold thr G.isN
    simp
  have cl0 : G.cla c false = (0, c.l) := by unfold G.cla; rw [if_pos hk, hca]; simp
  have cl1 : G.cla c true = (0, 0) := by unfold G.cla; rw [if_pos hk, hca]; simp
  have o0 := mk 0 false nv q (by decide) (by decide) hv'.1 (by omega) q1 q2
  have o1 := mk 1 false nv q (by decide) (by decide) hv'.1 (by omega) q1 q2
  have o2 := mk 0 false (G.nod c) 0 (by decide) (by decide) (by omega) (by omega) (by decide) (by decide)
  have o3 := mk 0 true nv q (by decide) (by decide) hv'.1 (by omega) q1 q2
  refine ⟨o0, ?_, ?_, ?_, ?_, ?_⟩
  · unfold sendE
    rw [wordsR_ok o0, if_neg (by simp), if_pos ⟨rfl, hth⟩, cl0, if_neg (by show ¬ c.l = 0; omega)]
  · unfold sendE
    rw [wordsR_ok o1, if_neg (by simp), if_neg (fun h => by have := h.1; simp at this)]
  · unfold sendE
    rw [wordsR_ok o2, if_neg (by simp), if_neg (fun h => by have := h.2; rw [hth2] at this; cases this)]
  · unfold sendE
    rw [wordsR_ok o3, if_neg (by simp), if_pos ⟨rfl, hth⟩, cl1, if_pos rfl]
  · have : Pc.wordsR ⟨0, false, [], ByteArray.empty⟩ = ([], 1) := by decide
    unfold sendE
    rw [this, if_pos (by decide)]
/-- A Tail that comes where nothing has begun. -/
theorem tail_none (X : I.IS) (x : ByteArray) : tkE X zjs (tlF x).word = 13 ∧ tkS X zjs (tlF x).word = X ∧ (takeR zjs (tlF x).word).1 = zjs := by
  have h : takeR zjs (tlF x).word = (zjs, zpk, false, 13) := by
    unfold takeR
    rw [readR_word (tl_right x)]
    unfold takeF
    rw [if_neg (by simp), if_pos (by show decide ((3 : Int) = 1) = false; decide)]
  unfold tkE tkS
  rw [h]
  exact ⟨rfl, rfl, rfl⟩
theorem rd_one {y : World} {hb ho : Nat} {csH : Array Value} {tH : TypeId} {u q nv : Int} (h0 : csH[ho]? = some (.int .i64 u)) (h1 : csH[ho + 1]? = some (.int .i64 q)) (hB : Bk y hb (csH.setIfInBounds ho (.int .i64 nv)) tH) : Rd y (some ⟨hb, ho, none⟩) (pc [(nv, q)]) := fun j v hj => by
  refine ⟨hb, ho, rfl, hB.lt, ?_⟩
  rw [hB.cell]
  have hlt : ho < csH.size := (Array.getElem?_eq_some_iff.1 h0).1
  match j with
  | 0 =>
    have : v = .int .i64 nv := by
      have e : (pc [(nv, q)])[0]? = some (.int .i64 nv) := rfl
      rw [e] at hj
      exact (Option.some.inj hj).symm
    rw [this, Nat.add_zero, Array.getElem?_setIfInBounds_self_of_lt hlt]
  | 1 =>
    have : v = .int .i64 q := by
      have e : (pc [(nv, q)])[1]? = some (.int .i64 q) := rfl
      rw [e] at hj
      exact (Option.some.inj hj).symm
    rw [this, Array.getElem?_setIfInBounds_ne (by omega)]
    exact h1
  | j + 2 =>
    have e : (pc [(nv, q)])[j + 2]? = none := rfl
    rw [e] at hj
    cases hj
theorem rd_two {y : World} {fh : Nat} {tH : TypeId} {nd z : Int} (hB : Bk y fh #[.int .i64 nd, .int .i64 z] tH) : Rd y (some ⟨fh, 0, none⟩) (pc [(nd, z)]) := fun j v hj => by
  refine ⟨fh, 0, rfl, hB.lt, ?_⟩
  rw [hB.cell, Nat.zero_add, List.getElem?_toArray]
  exact hj
theorem ten_set {v : World} {A : Nat} {t : TypeId} {a0 a1 a2 a3 a4 a5 a6 a7 a8 x0 x1 x2 x3 x4 x5 x6 x7 x8 y8 : Value} (h : Bk v A #[a0, a1, a2, a3, a4, a5, a6, a7, a8] t) : Bk ((((((((((v.setCell ⟨A, 0, none⟩ x0).setCell ⟨A, 1, none⟩ x1).setCell ⟨A, 2, none⟩ x2).setCell ⟨A, 3, none⟩ x3).setCell ⟨A, 4, none⟩ x4).setCell ⟨A, 5, none⟩ x5).setCell ⟨A, 6, none⟩ x6).setCell ⟨A, 7, none⟩ x7).setCell ⟨A, 8, none⟩ x8).setCell ⟨A, 8, none⟩ y8) A #[x0, x1, x2, x3, x4, x5, x6, x7, y8] t := by
  have := (((((((((h.set 0 x0).set 1 x1).set 2 x2).set 3 x3).set 4 x4).set 5 x5).set 6 x6).set 7 x7).set 8 x8).set 8 y8
  simpa using this
set_option maxRecDepth 100000 in
set_option maxHeartbeats 16000000 in
theorem nref_law (c0 : G.Cf) (s : Int) (c : Bool) (a : Option Addr) (cap : Nat) (x : ByteArray) (hs : List (Int × Int)) (w : World) (hm : hs.length ≤ maxLen) (hx : x.size ≤ maxLen) (hr : Rd w a (pc hs)) :
    Calls Tryz.prog 4 #[G.cfv c0, pcv s c (.slice a hs.length cap) x] w fun e w' => e = .returned (.bool true) ∧ Below w.heap.size w w' := by
  have LV := fun v => lives_any v
  have CS := fun v => G.small_form c0 v
  have CGD : Hid (∀ v, Below w.heap.size w v → Calls Tryz.prog 9 #[pcv s false (.slice a hs.length cap) x] v (PcN v (gd ⟨s, false, hs, x⟩))) := show _ from fun v hv => good_new s false a cap x hs v hm hx (hr.below hv)
  have HG1 : Hid ((gd ⟨s, false, hs, x⟩).hs.length = 1 ∧ (gd ⟨s, false, hs, x⟩).c = false ∧ (gd ⟨s, false, hs, x⟩).okB = true) := show _ ∧ _ ∧ _ from ⟨((gH_len false hs).2.2).elim (fun h => by cases h) id, rfl, gd_ok _⟩
  obtain ⟨gg, hgg⟩ : ∃ q, gd ⟨s, false, hs, x⟩ = q := ⟨_, rfl⟩
  rw [hgg] at CGD HG1
  obtain ⟨n, hn⟩ : ∃ n, hs.length = n := ⟨_, rfl⟩
  rw [hn] at CGD ⊢
  clear hgg hn hm hx hr
  obtain ⟨cw, ch, cl, cd, cr, ci, cb, we, ca⟩ := c0
  simp only [G.cfv, G.cfc, pcv, pcc] at *
  have B0 := two_blocks w #[.int .i64 cw, .int .i64 ch, .int .i64 cl, .int .i64 cd, .int .i64 cr, .int .i64 ci, .int .i64 cb, .bool we, .bool ca] #[.int .i64 s, .bool c, .slice a n cap, .string x] 23 34
  have HBW : Hid (Below w.heap.size w ((w.alloc (.cells #[.int .i64 cw, .int .i64 ch, .int .i64 cl, .int .i64 cd, .int .i64 cr, .int .i64 ci, .int .i64 cb, .bool we, .bool ca] 23)).alloc (.cells #[.int .i64 s, .bool c, .slice a n cap, .string x] 34))) := ((Below.refl _ _).alloc (Nat.le_refl _) _).alloc (by simp) _
  go_enter Tryz.func4, Tryz.ntmps4
  go_upto_region 1 with fail
  generalize (w.alloc (.cells #[.int .i64 cw, .int .i64 ch, .int .i64 cl, .int .i64 cd, .int .i64 cr, .int .i64 ci, .int .i64 cb, .bool we, .bool ca] 23)).alloc (.cells #[.int .i64 s, .bool c, .slice a n cap, .string x] 34) = v at *
  obtain ⟨A, hA⟩ : ∃ r, w.heap.size = r := ⟨_, rfl⟩
  have HA : Hid (w.heap.size = A) := hA
  have QA : Hid (Bk v A #[.int .i64 cw, .int .i64 ch, .int .i64 cl, .int .i64 cd, .int .i64 cr, .int .i64 ci, .int .i64 cb, .bool we, .bool ca] 23 ∧ Bk v (A + 1) #[.int .i64 s, .bool c, .slice a n cap, .string x] 34) := show _ ∧ _ from by
    rw [← hA]
    exact ⟨B0.out.1, B0.out.2.1⟩
  rw [hA]
  clear hA B0
  have L0 := LV v
  clear LV
  go_upto_region 3 with (go_at_call 5; with_reducible refine L0.mono ?_; rintro e v1 ⟨rfl, b1⟩)
  have QB : Hid (Bk v1 A #[.int .i64 cw, .int .i64 ch, .int .i64 cl, .int .i64 cd, .int .i64 cr, .int .i64 ci, .int .i64 cb, .bool we, .bool ca] 23 ∧ Bk v1 (A + 1) #[.int .i64 s, .bool c, .slice a n cap, .string x] 34) := show _ ∧ _ from ⟨QA.out.1.next b1, QA.out.2.next b1⟩
  have HB1 : Hid (Below w.heap.size w v1) := HBW.out.trans (b1.mono HBW.out.size)
  clear L0 QA HBW b1
  obtain ⟨k0, k1, k2, k3, k4, k5, k6, k7, k8⟩ := ncfg QB.out.1
  go_wp2_with fail
  go_at_call 6
  with_reducible refine (CS v1).mono ?_
  rintro e v2 ⟨dw, dh, dl, dd, dr, di, db, de, da, rfl, b2, ft, s4, s5⟩
  have QC : Hid (Bk v2 A #[.int .i64 cw, .int .i64 ch, .int .i64 cl, .int .i64 cd, .int .i64 cr, .int .i64 ci, .int .i64 cb, .bool we, .bool ca] 23 ∧ Bk v2 (A + 1) #[.int .i64 s, .bool c, .slice a n cap, .string x] 34) := show _ ∧ _ from ⟨QB.out.1.next b2, QB.out.2.next b2⟩
  have HB2 : Hid (Below w.heap.size w v2) := HB1.out.trans (b2.mono HB1.out.size)
  have FT : Hid (G.Fits ⟨dw, dh, dl, dd, dr, di, db, de, da⟩ ∧ dw ≤ 4 ∧ dh ≤ 4) := show _ ∧ _ ∧ _ from ⟨ft, s4, s5⟩
  clear CS b2 ft s4 s5 QB HB1 k0 k1 k2 k3 k4 k5 k6 k7 k8
  have QAc := QC.out.1
  have f0 := QAc.free 0
  have f1 := QAc.free 1
  have f2 := QAc.free 2
  have f3 := QAc.free 3
  have f4 := QAc.free 4
  have f5 := QAc.free 5
  have f6 := QAc.free 6
  have f7 := QAc.free 7
  have f8 := QAc.free 8
  obtain ⟨k0, k1, k2, k3, k4, k5, k6, k7, k8⟩ := ncfg QAc
  clear QAc
  go_upto_region 5 with fail

  have QE : Hid (Bk ((((((((((v2.setCell ⟨A, 0, none⟩ (.int .i64 dw)).setCell ⟨A, 1, none⟩ (.int .i64 dh)).setCell ⟨A, 2, none⟩ (.int .i64 dl)).setCell ⟨A, 3, none⟩ (.int .i64 dd)).setCell ⟨A, 4, none⟩ (.int .i64 dr)).setCell ⟨A, 5, none⟩ (.int .i64 di)).setCell ⟨A, 6, none⟩ (.int .i64 db)).setCell ⟨A, 7, none⟩ (.bool de)).setCell ⟨A, 8, none⟩ (.bool da)).setCell ⟨A, 8, none⟩ (.bool false)) A #[.int .i64 dw, .int .i64 dh, .int .i64 dl, .int .i64 dd, .int .i64 dr, .int .i64 di, .int .i64 db, .bool de, .bool false] 23 ∧ Bk ((((((((((v2.setCell ⟨A, 0, none⟩ (.int .i64 dw)).setCell ⟨A, 1, none⟩ (.int .i64 dh)).setCell ⟨A, 2, none⟩ (.int .i64 dl)).setCell ⟨A, 3, none⟩ (.int .i64 dd)).setCell ⟨A, 4, none⟩ (.int .i64 dr)).setCell ⟨A, 5, none⟩ (.int .i64 di)).setCell ⟨A, 6, none⟩ (.int .i64 db)).setCell ⟨A, 7, none⟩ (.bool de)).setCell ⟨A, 8, none⟩ (.bool da)).setCell ⟨A, 8, none⟩ (.bool false)) (A + 1) #[.int .i64 s, .bool c, .slice a n cap, .string x] 34) := show _ ∧ _ from ⟨ten_set QC.out.1, by
    have := QC.out.2
    have hne : A + 1 ≠ A := by omega
    exact (((((((((this.far hne).far hne).far hne).far hne).far hne).far hne).far hne).far hne).far hne).far hne⟩
  have HB3 : Hid (Below w.heap.size w ((((((((((v2.setCell ⟨A, 0, none⟩ (.int .i64 dw)).setCell ⟨A, 1, none⟩ (.int .i64 dh)).setCell ⟨A, 2, none⟩ (.int .i64 dl)).setCell ⟨A, 3, none⟩ (.int .i64 dd)).setCell ⟨A, 4, none⟩ (.int .i64 dr)).setCell ⟨A, 5, none⟩ (.int .i64 di)).setCell ⟨A, 6, none⟩ (.int .i64 db)).setCell ⟨A, 7, none⟩ (.bool de)).setCell ⟨A, 8, none⟩ (.bool da)).setCell ⟨A, 8, none⟩ (.bool false))) := show _ from by
    have hk : w.heap.size ≤ A := by rw [HA.out]; exact Nat.le_refl _
    exact below_set (below_set (below_set (below_set (below_set (below_set (below_set (below_set (below_set (below_set HB2.out hk _ _) hk _ _) hk _ _) hk _ _) hk _ _) hk _ _) hk _ _) hk _ _) hk _ _) hk _ _
  clear f0 f1 f2 f3 f4 f5 f6 f7 f8 k0 k1 k2 k3 k4 k5 k6 k7 k8 QC HB2
  generalize ((((((((((v2.setCell ⟨A, 0, none⟩ (.int .i64 dw)).setCell ⟨A, 1, none⟩ (.int .i64 dh)).setCell ⟨A, 2, none⟩ (.int .i64 dl)).setCell ⟨A, 3, none⟩ (.int .i64 dd)).setCell ⟨A, 4, none⟩ (.int .i64 dr)).setCell ⟨A, 5, none⟩ (.int .i64 di)).setCell ⟨A, 6, none⟩ (.int .i64 db)).setCell ⟨A, 7, none⟩ (.bool de)).setCell ⟨A, 8, none⟩ (.bool da)).setCell ⟨A, 8, none⟩ (.bool false)) = v3 at *
  have NC : Hid (G.Fits ⟨dw, dh, dl, dd, dr, di, db, de, false⟩ ∧ G.chk ⟨dw, dh, dl, dd, dr, di, db, de, false⟩ = 0 ∧ G.isN ⟨dw, dh, dl, dd, dr, di, db, de, false⟩ 0 = true ∧ 1 ≤ G.nod ⟨dw, dh, dl, dd, dr, di, db, de, false⟩ ∧ G.nod ⟨dw, dh, dl, dd, dr, di, db, de, false⟩ ≤ 16) := no_cast (c := ⟨dw, dh, dl, dd, dr, di, db, de, da⟩) FT.out.1 FT.out.2.1 FT.out.2.2
  clear FT
  have CN := nic_new ⟨dw, dh, dl, dd, dr, di, db, de, false⟩ 0 v3 NC.out.2.2.1 ⟨NC.out.1.l1, NC.out.1.l2⟩
  simp only [G.cfv, G.cfc] at CN
  obtain ⟨k0, k1, k2, k3, k4, k5, k6, k7, k8⟩ := ncfg QE.out.1
  go_upto_region 6 with (go_at_call 8; with_reducible refine CN.mono ?_; rintro e v4 ⟨b, ib, F, jb, rfl, ly⟩)
  have R4 : Hid (Rf w v4 b ib ⟨⟨dw, dh, dl, dd, dr, di, db, de, false⟩, 0, 0, 0⟩ (.slice none 0 0) jb (fun _ => zjs) (I.newI (I.roomN di)) (fun _ => False) [(A + 1, #[.int .i64 s, .bool c, .slice a n cap, .string x], 34), (A, #[.int .i64 dw, .int .i64 dh, .int .i64 dl, .int .i64 dd, .int .i64 dr, .int .i64 di, .int .i64 db, .bool de, .bool false], 23)]) := show _ from by
    have hb := ly.bl
    have hk : w.heap.size = A := HA.out
    refine ⟨Nx.begin ly HB3.out fun g hg => ?_, fun x hx => ?_, fun x hx => ?_⟩
    · rcases hg with ⟨x, hx, e⟩ | e
      · simp only [List.mem_cons, List.mem_nil_iff, or_false] at hx
        rcases hx with rfl | rfl
        · rw [e]; exact QE.out.2.lt
        · rw [e]; exact QE.out.1.lt
      · exact e.elim
    · simp only [List.mem_cons, List.mem_nil_iff, or_false] at hx
      rcases hx with rfl | rfl
      · exact QE.out.2.next hb
      · exact QE.out.1.next hb
    · simp only [List.mem_cons, List.mem_nil_iff, or_false] at hx
      rcases hx with rfl | rfl
      · show w.heap.size ≤ A + 1; omega
      · show w.heap.size ≤ A; omega
  clear CN ly k0 k1 k2 k3 k4 k5 k6 k7 k8 QE HB3
  have dB := R4.out.at (k := A + 1) (cs := #[.int .i64 s, .bool c, .slice a n cap, .string x]) (t := 34) (by simp)
  have d1 := (dB.cell 1).trans rfl
  have f1 := dB.free 1
  simp only [List.getElem?_toArray, List.getElem?_cons_zero, List.getElem?_cons_succ] at d1
  clear dB
  go_upto_region 7 with fail
  have R5 : Hid (Rf w (v4.setCell ⟨A + 1, 1, none⟩ (.bool false)) b ib ⟨⟨dw, dh, dl, dd, dr, di, db, de, false⟩, 0, 0, 0⟩ (.slice none 0 0) jb (fun _ => zjs) (I.newI (I.roomN di)) (fun _ => False) [(A + 1, #[.int .i64 s, .bool false, .slice a n cap, .string x], 34), (A, #[.int .i64 dw, .int .i64 dh, .int .i64 dl, .int .i64 dd, .int .i64 dr, .int .i64 di, .int .i64 db, .bool de, .bool false], 23)]) := show _ from by
    have := R4.out.set (fun x hx => by simp only [List.mem_singleton] at hx; subst hx; show A ≠ A + 1; omega) 1 (.bool false)
    simp only [List.setIfInBounds_toArray, List.set_cons_succ, List.set_cons_zero] at this
    exact this
  clear R4 d1 f1
  generalize v4.setCell ⟨A + 1, 1, none⟩ (.bool false) = v5 at *
  have dB := R5.out.at (k := A + 1) (cs := #[.int .i64 s, .bool false, .slice a n cap, .string x]) (t := 34) (by simp)
  have d0 := (dB.cell 0).trans rfl
  have d1 := (dB.cell 1).trans rfl
  have d2 := (dB.cell 2).trans rfl
  have d3 := (dB.cell 3).trans rfl
  simp only [List.getElem?_toArray, List.getElem?_cons_zero, List.getElem?_cons_succ] at d0 d1 d2 d3
  clear dB
  have C1 := CGD.out v5 R5.out.bl
  clear CGD
  obtain ⟨gs, gc, ghs, gx⟩ := gg
  obtain ⟨hg1, hg2, hg3⟩ := HG1.out
  simp only at hg1 hg2
  subst hg2
  obtain ⟨⟨u, q⟩, rfl⟩ := List.length_eq_one_iff.1 hg1
  have HOK : Hid (Pc.okB ⟨gs, false, [(u, q)], gx⟩ = true) := hg3
  clear HG1 hg1 hg3
  unfold PcN at C1
  simp only [pcv, pcc, List.length_cons, List.length_nil, Nat.zero_add] at C1
  go_upto_region 8 with (go_at_call 9; with_reducible refine C1.mono ?_; rintro e v6 ⟨ha, hcap, rfl, x1, x2, x3, x4⟩)
  obtain ⟨hb, ho, rfl⟩ : ∃ h o, ha = some ⟨h, o, none⟩ := x2.at0 (by show 0 < 2; decide)
  obtain ⟨hh1, csH, tH, hB⟩ := x4 _ rfl
  have hu : csH[ho]? = some (.int .i64 u) ∧ csH[ho + 1]? = some (.int .i64 q) := by
    obtain ⟨g9, o9, e9, _, c9⟩ := x2 0 (.int .i64 u) rfl
    obtain ⟨g8, o8, e8, _, c8⟩ := x2 1 (.int .i64 q) rfl
    simp only [Option.some.injEq, Addr.mk.injEq] at e9 e8
    obtain ⟨rfl, rfl, _⟩ := e9
    obtain ⟨rfl, rfl, _⟩ := e8
    exact ⟨by rw [← hB.cell]; exact c9, by rw [← hB.cell]; exact c8⟩
  have HU : Hid (csH[ho]? = some (.int .i64 u) ∧ csH[ho + 1]? = some (.int .i64 q)) := hu
  have HC : Hid (1 ≤ hcap) := x1
  have hAv : A < v5.heap.size := (R5.out.at (k := A) (cs := #[.int .i64 dw, .int .i64 dh, .int .i64 dl, .int .i64 dd, .int .i64 dr, .int .i64 di, .int .i64 db, .bool de, .bool false]) (t := 23) (by simp)).lt
  have R7 : Hid (Rf w (v6.alloc (.cells #[.int .i64 gs, .bool false, .slice (some ⟨hb, ho, none⟩) 1 hcap, .string gx] 34)) b ib ⟨⟨dw, dh, dl, dd, dr, di, db, de, false⟩, 0, 0, 0⟩ (.slice none 0 0) jb (fun _ => zjs) (I.newI (I.roomN di)) (fun _ => False) [(v6.heap.size, #[.int .i64 gs, .bool false, .slice (some ⟨hb, ho, none⟩) 1 hcap, .string gx], 34), (hb, csH, tH), (A, #[.int .i64 dw, .int .i64 dh, .int .i64 dl, .int .i64 dd, .int .i64 dr, .int .i64 di, .int .i64 db, .bool de, .bool false], 23)]) := show _ from
    (((R5.out.sub (L' := [(A, #[.int .i64 dw, .int .i64 dh, .int .i64 dl, .int .i64 dd, .int .i64 dr, .int .i64 di, .int .i64 db, .bool de, .bool false], 23)]) (fun x hx => by simp only [List.mem_singleton] at hx; subst hx; simp)).add x3 hh1 hB).alloc _ _)
  have HD : Hid (A < hb ∧ hb < v6.heap.size) := show _ ∧ _ from ⟨Nat.lt_of_lt_of_le hAv hh1, hB.lt⟩
  clear C1 x1 x2 x3 x4 hh1 hB hu hAv R5 d0 d1 d2 d3
  generalize v6.alloc (.cells #[.int .i64 gs, .bool false, .slice (some ⟨hb, ho, none⟩) 1 hcap, .string gx] 34) = v7 at *
  generalize v6.heap.size = gB at *
  have dB := R7.out.at (k := gB) (cs := #[.int .i64 gs, .bool false, .slice (some ⟨hb, ho, none⟩) 1 hcap, .string gx]) (t := 34) (by simp)
  have d0 := (dB.cell 0).trans rfl
  have f0 := dB.free 0
  simp only [List.getElem?_toArray, List.getElem?_cons_zero] at d0
  clear dB
  go_upto_region 9 with fail
  have R8 : Hid (Rf w (v7.setCell ⟨gB, 0, none⟩ (.int .i64 0)) b ib ⟨⟨dw, dh, dl, dd, dr, di, db, de, false⟩, 0, 0, 0⟩ (.slice none 0 0) jb (fun _ => zjs) (I.newI (I.roomN di)) (fun _ => False) [(gB, #[.int .i64 0, .bool false, .slice (some ⟨hb, ho, none⟩) 1 hcap, .string gx], 34), (hb, csH, tH), (A, #[.int .i64 dw, .int .i64 dh, .int .i64 dl, .int .i64 dd, .int .i64 dr, .int .i64 di, .int .i64 db, .bool de, .bool false], 23)]) := show _ from by
    have hd := HD.out
    have := R7.out.set (fun x hx => by
      simp only [List.mem_cons, List.mem_nil_iff, or_false] at hx
      rcases hx with rfl | rfl
      · show hb ≠ gB; omega
      · show A ≠ gB; omega) 0 (.int .i64 0)
    simp only [List.setIfInBounds_toArray, List.set_cons_zero] at this
    exact this
  clear R7 d0 f0
  generalize v7.setCell ⟨gB, 0, none⟩ (.int .i64 0) = v8 at *
  have KEY : Hid (∀ y, Below v8.heap.size v8 y → (y.cell? ⟨gB, 2, none⟩ = some (.slice (some ⟨hb, ho, none⟩) 1 hcap) ∧ y.cell? ⟨hb, ho, none⟩ = some (.int .i64 u)) ∧ Bk y A #[.int .i64 dw, .int .i64 dh, .int .i64 dl, .int .i64 dd, .int .i64 dr, .int .i64 di, .int .i64 db, .bool de, .bool false] 23) := show _ from fun y hy => by
    have R := R8.out.next hy
    exact ⟨⟨(R.at (k := gB) (cs := #[.int .i64 0, .bool false, .slice (some ⟨hb, ho, none⟩) 1 hcap, .string gx]) (t := 34) (by simp)).cell 2, ((R.at (k := hb) (cs := csH) (t := tH) (by simp)).cell ho).trans HU.out.1⟩, R.at (by simp)⟩
  have D0 : Below v8.heap.size v8 v8.drew := (Below.refl _ _).drew
  have T0 := show _ ∧ _ ∧ _ from ⟨(KEY.out _ D0).1.1, (KEY.out _ D0).1.2, ncfg (KEY.out _ D0).2⟩
  have ND := fun y => G.node_any ⟨dw, dh, dl, dd, dr, di, db, de, false⟩ NC.out.2.1 u y
  simp only [G.cfv, G.cfc] at ND
  obtain ⟨nv, hnv⟩ : ∃ z, G.nde ⟨dw, dh, dl, dd, dr, di, db, de, false⟩ u = z := ⟨_, rfl⟩
  rw [hnv] at ND
  have HNV : Hid (G.nde ⟨dw, dh, dl, dd, dr, di, db, de, false⟩ u = nv) := hnv
  clear hnv
  refine wp_region_G (fun V => V.cell? ⟨gB, 2, none⟩ = some (.slice (some ⟨hb, ho, none⟩) 1 hcap) ∧ V.cell? ⟨hb, ho, none⟩ = some (.int .i64 u) ∧ V.cell? ⟨A, 0, none⟩ = some (.int .i64 dw) ∧ V.cell? ⟨A, 1, none⟩ = some (.int .i64 dh) ∧ V.cell? ⟨A, 2, none⟩ = some (.int .i64 dl) ∧ V.cell? ⟨A, 3, none⟩ = some (.int .i64 dd) ∧ V.cell? ⟨A, 4, none⟩ = some (.int .i64 dr) ∧ V.cell? ⟨A, 5, none⟩ = some (.int .i64 di) ∧ V.cell? ⟨A, 6, none⟩ = some (.int .i64 db) ∧ V.cell? ⟨A, 7, none⟩ = some (.bool de) ∧ V.cell? ⟨A, 8, none⟩ = some (.bool false)) 11 (by kernel_rfl) ?_
  refine wpAnyG_take [1, 9, 10, 11] (some 31) (i := 0) (v := ?v0) rfl rfl (by kernel_rfl) (by kernel_rfl) (by kernel_rfl) (by kernel_rfl) (fun _ _ _ h => h) (Or.inl ⟨by rfl, ?y0⟩) T0 ?r0
  case y0 => (intro V hSV; obtain ⟨s0, s1, s2, s3, s4, s5, s6, s7, s8, s9, s10⟩ := hSV; go_simp; try with_reducible rfl)
  try simp only [Act.put, List.setIfInBounds_toArray, List.set_cons_zero, List.set_cons_succ]
  refine wpAnyG_take [9, 10, 11] (some 32) (i := 1) (v := ?v1) rfl rfl (by kernel_rfl) (by kernel_rfl) (by kernel_rfl) (by kernel_rfl) (fun _ _ _ h => h) (Or.inl ⟨by rfl, ?y1⟩) T0 ?r1
  case y1 => (intro V hSV; obtain ⟨s0, s1, s2, s3, s4, s5, s6, s7, s8, s9, s10⟩ := hSV; go_simp; try with_reducible rfl)
  try simp only [Act.put, List.setIfInBounds_toArray, List.set_cons_zero, List.set_cons_succ]
  refine wpAnyG_take [8, 11] (some 33) (i := 2) (v := ?v2) rfl rfl (by kernel_rfl) (by kernel_rfl) (by kernel_rfl) (by kernel_rfl) (fun _ _ _ h => h) (Or.inl ⟨by rfl, ?y2⟩) T0 ?r2
  case y2 => (intro V hSV; obtain ⟨s0, s1, s2, s3, s4, s5, s6, s7, s8, s9, s10⟩ := hSV; go_simp; try with_reducible rfl)
  try simp only [Act.put, List.setIfInBounds_toArray, List.set_cons_zero, List.set_cons_succ]
  refine wpAnyG_take [4, 5, 6, 7, 8, 11] (some 34) (i := 3) (v := ?v3) rfl rfl (by kernel_rfl) (by kernel_rfl) (by kernel_rfl) (by kernel_rfl) (fun _ _ _ h => h) (Or.inl ⟨by rfl, ?y3⟩) T0 ?r3
  case y3 => (intro V hSV; obtain ⟨s0, s1, s2, s3, s4, s5, s6, s7, s8, s9, s10⟩ := hSV; go_simp; try with_reducible rfl)
  try simp only [Act.put, List.setIfInBounds_toArray, List.set_cons_zero, List.set_cons_succ]
  refine wpAnyG_take [5, 6, 7, 8, 11] (some 35) (i := 4) (v := ?v4) rfl rfl (by kernel_rfl) (by kernel_rfl) (by kernel_rfl) (by kernel_rfl) (fun _ _ _ h => h) (Or.inl ⟨by rfl, ?y4⟩) T0 ?r4
  case y4 => (intro V hSV; obtain ⟨s0, s1, s2, s3, s4, s5, s6, s7, s8, s9, s10⟩ := hSV; go_simp; try with_reducible rfl)
  try simp only [Act.put, List.setIfInBounds_toArray, List.set_cons_zero, List.set_cons_succ]
  refine wpAnyG_take [6, 7, 8, 11] (some 36) (i := 5) (v := ?v5) rfl rfl (by kernel_rfl) (by kernel_rfl) (by kernel_rfl) (by kernel_rfl) (fun _ _ _ h => h) (Or.inl ⟨by rfl, ?y5⟩) T0 ?r5
  case y5 => (intro V hSV; obtain ⟨s0, s1, s2, s3, s4, s5, s6, s7, s8, s9, s10⟩ := hSV; go_simp; try with_reducible rfl)
  try simp only [Act.put, List.setIfInBounds_toArray, List.set_cons_zero, List.set_cons_succ]
  refine wpAnyG_take [7, 8, 11] (some 37) (i := 6) (v := ?v6) rfl rfl (by kernel_rfl) (by kernel_rfl) (by kernel_rfl) (by kernel_rfl) (fun _ _ _ h => h) (Or.inl ⟨by rfl, ?y6⟩) T0 ?r6
  case y6 => (intro V hSV; obtain ⟨s0, s1, s2, s3, s4, s5, s6, s7, s8, s9, s10⟩ := hSV; go_simp; try with_reducible rfl)
  try simp only [Act.put, List.setIfInBounds_toArray, List.set_cons_zero, List.set_cons_succ]
  refine wpAnyG_take [8, 11] (some 38) (i := 7) (v := ?v7) rfl rfl (by kernel_rfl) (by kernel_rfl) (by kernel_rfl) (by kernel_rfl) (fun _ _ _ h => h) (Or.inl ⟨by rfl, ?y7⟩) T0 ?r7
  case y7 => (intro V hSV; obtain ⟨s0, s1, s2, s3, s4, s5, s6, s7, s8, s9, s10⟩ := hSV; go_simp; try with_reducible rfl)
  try simp only [Act.put, List.setIfInBounds_toArray, List.set_cons_zero, List.set_cons_succ]
  refine wpAnyG_one (i := 8) (by kernel_rfl) rfl (fun K hK => ?_)
  go_simp
  with_reducible refine (ND _).mono ?_
  rintro e v9 ⟨rfl, b9⟩
  have D1 : Below v8.heap.size v8 v9 := D0.trans (b9.mono D0.size)
  have T1 := show _ ∧ _ ∧ _ from ⟨(KEY.out _ D1).1.1, (KEY.out _ D1).1.2, ncfg (KEY.out _ D1).2⟩
  clear b9
  refine hK.out _ _ (Or.inr T1) ?_
  clear hK K
  try simp only [Act.put, List.setIfInBounds_toArray, List.set_cons_zero, List.set_cons_succ]
  refine wpAnyG_take [10, 11] (some 40) (i := 9) (v := ?v9) rfl rfl (by kernel_rfl) (by kernel_rfl) (by kernel_rfl) (by kernel_rfl) (fun _ _ _ h => h) (Or.inl ⟨by rfl, ?y9⟩) T1 ?r9
  case y9 => (intro V hSV; obtain ⟨s0, s1, s2, s3, s4, s5, s6, s7, s8, s9, s10⟩ := hSV; go_simp; try with_reducible rfl)
  try simp only [Act.put, List.setIfInBounds_toArray, List.set_cons_zero, List.set_cons_succ]
  refine wpAnyG_take [11] (some 41) (i := 10) (v := ?v10) rfl rfl (by kernel_rfl) (by kernel_rfl) (by kernel_rfl) (by kernel_rfl) (fun _ _ _ h => h) (Or.inl ⟨by rfl, ?y10⟩) T1 ?r10
  case y10 => (intro V hSV; obtain ⟨s0, s1, s2, s3, s4, s5, s6, s7, s8, s9, s10⟩ := hSV; go_simp; try with_reducible rfl)
  try simp only [Act.put, List.setIfInBounds_toArray, List.set_cons_zero, List.set_cons_succ]
  have R9 := R8.out.next D1
  have zf := (R9.at (k := hb) (cs := csH) (t := tH) (by simp)).free ho
  have zc := (KEY.out _ D1).1.2
  have R10 : Hid (Rf w (v9.setCell ⟨hb, ho, none⟩ (.int .i64 nv)) b ib ⟨⟨dw, dh, dl, dd, dr, di, db, de, false⟩, 0, 0, 0⟩ (.slice none 0 0) jb (fun _ => zjs) (I.newI (I.roomN di)) (fun _ => False) [(hb, csH.setIfInBounds ho (.int .i64 nv), tH), (gB, #[.int .i64 0, .bool false, .slice (some ⟨hb, ho, none⟩) 1 hcap, .string gx], 34), (A, #[.int .i64 dw, .int .i64 dh, .int .i64 dl, .int .i64 dd, .int .i64 dr, .int .i64 di, .int .i64 db, .bool de, .bool false], 23)]) := show _ from by
    have hd := HD.out
    exact (R9.sub (L' := [(hb, csH, tH), (gB, #[.int .i64 0, .bool false, .slice (some ⟨hb, ho, none⟩) 1 hcap, .string gx], 34), (A, #[.int .i64 dw, .int .i64 dh, .int .i64 dl, .int .i64 dd, .int .i64 dr, .int .i64 di, .int .i64 db, .bool de, .bool false], 23)]) (fun x hx => by
      simp only [List.mem_cons, List.mem_nil_iff, or_false] at hx
      rcases hx with rfl | rfl | rfl <;> simp)).set (fun x hx => by
      simp only [List.mem_cons, List.mem_nil_iff, or_false] at hx
      rcases hx with rfl | rfl
      · show gB ≠ hb; omega
      · show A ≠ hb; omega) ho (.int .i64 nv)
  clear R9 R8 KEY
  refine wpAnyG_one (i := 11) (by kernel_rfl) rfl (fun K hK => ?_)
  go_simp
  refine hK.out _ _ (Or.inl (by kernel_rfl)) ?_
  clear hK K
  try simp only [Act.put, List.setIfInBounds_toArray, List.set_cons_zero, List.set_cons_succ]
  refine wpAnyG_done (by kernel_rfl) ?_ _
  clear T0 T1 zf zc D0 D1 ND
  generalize v9.setCell ⟨hb, ho, none⟩ (.int .i64 nv) = v10 at *

  obtain ⟨o1, o2, o3, o4, o5, o6⟩ := ref_facts (c := ⟨dw, dh, dl, dd, dr, di, db, de, false⟩) rfl NC.out.1.l1 NC.out.2.1 NC.out.2.2.2.2 NC.out.2.2.2.1 HOK.out (nv := nv) (by rw [← HNV.out]; exact G.nde_in NC.out.2.1 u) 0 0
  have OG : Hid (Pc.okB ⟨0, false, [(nv, q)], gx⟩ = true) := o1
  have NVI : Hid (G.isN ⟨dw, dh, dl, dd, dr, di, db, de, false⟩ nv = true) := show _ = _ from by rw [← HNV.out]; exact G.nde_in NC.out.2.1 u
  have HRD : Hid (∀ y, Bk y hb (csH.setIfInBounds ho (.int .i64 nv)) tH → Rd y (some ⟨hb, ho, none⟩) (pc [(nv, q)])) := show _ from fun y hy => rd_one HU.out.1 HU.out.2 hy
  have r10 := HRD.out v10 (R10.out.at (by simp))
  have CB := nback_any 0 false (some ⟨hb, ho, none⟩) hcap gx [(nv, q)] v10 (by simp) r10
  unfold PcR at CB
  have HX64 : Hid (gx.size ≤ 64 ∧ gx.size ≤ maxLen) := show _ ∧ _ from by
    obtain ⟨-, -, ok3, -⟩ := (ok_iff _).1 HOK.out
    simp only at ok3
    exact ⟨ok3, by unfold maxLen; omega⟩
  have CSD : Hid (∀ y a' cap', Rf w y b ib ⟨⟨dw, dh, dl, dd, dr, di, db, de, false⟩, 0, 0, 0⟩ (.slice none 0 0) jb (fun _ => zjs) (I.newI (I.roomN di)) (fun _ => False) [(hb, csH.setIfInBounds ho (.int .i64 nv), tH), (gB, #[.int .i64 0, .bool false, .slice (some ⟨hb, ho, none⟩) 1 hcap, .string gx], 34), (A, #[.int .i64 dw, .int .i64 dh, .int .i64 dl, .int .i64 dd, .int .i64 dr, .int .i64 di, .int .i64 db, .bool de, .bool false], 23)] → Rd y a' (pc [(nv, q)]) → Calls Tryz.prog 10 #[.pointer (some ⟨b, 0, none⟩), .agg #[.int .i64 0, .bool false, .slice a' 1 cap', .string gx]] y fun e v' => e = .returned (.int .i64 0) ∧ ∃ cu g cp h q9 mc, Rf w v' b ib ⟨⟨dw, dh, dl, dd, dr, di, db, de, false⟩, 0, 0 + 1, 0 + ((Pc.ws ⟨0, false, [(nv, q)], gx⟩).length : Int)⟩ cu jb (fun _ => zjs) (I.newI (I.roomN di)) (fun k => k = g ∨ k = h) [(hb, csH.setIfInBounds ho (.int .i64 nv), tH), (gB, #[.int .i64 0, .bool false, .slice (some ⟨hb, ho, none⟩) 1 hcap, .string gx], 34), (A, #[.int .i64 dw, .int .i64 dh, .int .i64 dl, .int .i64 dd, .int .i64 dr, .int .i64 di, .int .i64 db, .bool de, .bool false], 23)] ∧ Nxt v' cu g 0 1 cp h q9 (Pc.ws ⟨0, false, [(nv, q)], gx⟩).length mc 0 ((Pc.ws ⟨0, false, [(nv, q)], gx⟩).getD 0 0)) := show _ from fun y a' cap' hR hrd => by
    have hcl : G.cla ⟨dw, dh, dl, dd, dr, di, db, de, false⟩ false = (0, dl) := by unfold G.cla; rw [if_pos NC.out.2.1]; simp
    have hl1 : 1 ≤ dl := NC.out.1.l1
    have hl2 : dl ≤ 8 := NC.out.1.l2
    have hwl : (Pc.ws ⟨0, false, [(nv, q)], gx⟩).length = 1 + (nb gx.size + 1) := ws_len _
    have h64 := HX64.out.1
    have hnb : nb gx.size ≤ 64 := by unfold nb; omega
    have := hR.send ⟨0, false, [(nv, q)], gx⟩ a' cap' (by simp) HX64.out.2 hrd o2 (by show 0 ≤ (G.cla ⟨dw, dh, dl, dd, dr, di, db, de, false⟩ false).1 ∧ (G.cla ⟨dw, dh, dl, dd, dr, di, db, de, false⟩ false).1 ≤ 8 ∧ 0 ≤ (G.cla ⟨dw, dh, dl, dd, dr, di, db, de, false⟩ false).2 ∧ (G.cla ⟨dw, dh, dl, dd, dr, di, db, de, false⟩ false).2 ≤ 8; rw [hcl]; simp only; omega) (by show 0 ≤ (0 : Int) ∧ (0 : Int) ≤ 1000000; decide) (by show 0 ≤ (0 : Int) ∧ (0 : Int) ≤ 1000000; decide) (by omega) (by omega)
    have hln : lnR ⟨⟨dw, dh, dl, dd, dr, di, db, de, false⟩, 0, 0, 0⟩ ⟨0, false, [(nv, q)], gx⟩ = 0 := by unfold lnR; show (G.cla ⟨dw, dh, dl, dd, dr, di, db, de, false⟩ false).1 + Int.tmod 0 (G.cla ⟨dw, dh, dl, dd, dr, di, db, de, false⟩ false).2 = 0; rw [hcl]; simp
    rw [hln] at this
    exact this
  clear HU r10 HD HNV
  simp only [pcv, pcc, List.length_cons, List.length_nil, Nat.zero_add] at CB
  have dB := R10.out.at (k := gB) (cs := #[.int .i64 0, .bool false, .slice (some ⟨hb, ho, none⟩) 1 hcap, .string gx]) (t := 34) (by simp)
  have d0 := (dB.cell 0).trans rfl
  have d1 := (dB.cell 1).trans rfl
  have d2 := (dB.cell 2).trans rfl
  have d3 := (dB.cell 3).trans rfl
  simp only [List.getElem?_toArray, List.getElem?_cons_zero, List.getElem?_cons_succ] at d0 d1 d2 d3
  clear dB
  go_wp2_with fail
  go_at_call 11
  with_reducible refine CB.mono ?_
  rintro e v11 ⟨a11, cap11, rfl, -, x2, x3⟩
  have C1 := CSD.out v11 a11 cap11 (R10.out.next x3) x2
  clear CB CSD x2 x3 R10 d0 d1 d2 d3
  go_upto_region 12 with (go_at_call 10; with_reducible refine C1.mono ?_; rintro e v12 ⟨rfl, cu, g, cp, h, q9, mc, R12', NX12'⟩)
  obtain ⟨WS, hWS⟩ : ∃ z, Pc.ws ⟨0, false, [(nv, q)], gx⟩ = z := ⟨_, rfl⟩
  have HWS : Hid (Pc.ws ⟨0, false, [(nv, q)], gx⟩ = WS) := hWS
  rw [hWS] at R12' NX12'
  clear hWS C1
  have HWL : Hid (2 ≤ WS.length ∧ WS.length ≤ 100) := show _ ∧ _ from by
    rw [← HWS.out, ws_len]
    have h64 := HX64.out.1
    show 2 ≤ 1 + (nb gx.size + 1) ∧ 1 + (nb gx.size + 1) ≤ 100
    unfold nb
    omega
  have HWT : Hid (∀ W ∈ WS, W < 18446744073709551616) := show _ from by rw [← HWS.out]; exact ws_lt _
  have HWE : Hid (WS.getD (WS.length - 1) 0 = (tlF gx).word) := show _ = _ from by
    have h1 := ws_tail ⟨0, false, [(nv, q)], gx⟩
    rw [← HWS.out, ws_len]
    exact h1
  obtain ⟨lfw, hlfw⟩ : ∃ z : Int, 0 + (WS.length : Int) = z := ⟨_, rfl⟩
  have HLF : Hid (0 + (WS.length : Int) = lfw) := hlfw
  rw [hlfw] at R12'
  have R12 : Hid (Rf w v12 b ib ⟨⟨dw, dh, dl, dd, dr, di, db, de, false⟩, 0, 0 + 1, lfw⟩ cu jb (fun _ => zjs) (I.newI (I.roomN di)) (fun k => k = g ∨ k = h) [(hb, csH.setIfInBounds ho (.int .i64 nv), tH), (gB, #[.int .i64 0, .bool false, .slice (some ⟨hb, ho, none⟩) 1 hcap, .string gx], 34), (A, #[.int .i64 dw, .int .i64 dh, .int .i64 dl, .int .i64 dd, .int .i64 dr, .int .i64 di, .int .i64 db, .bool de, .bool false], 23)]) := R12'
  have NX12 : Hid (Nxt v12 cu g 0 1 cp h q9 WS.length mc 0 (WS.getD 0 0)) := NX12'
  clear R12' NX12' hlfw
  have C1 := first_any R12.out.nx.nb (by show lfw ≠ 0; have := HWL.out; have := HLF.out; omega) NX12.out
  obtain ⟨W0, hW0⟩ : ∃ z, WS.getD 0 0 = z := ⟨_, rfl⟩
  have HW0 : Hid (WS.getD 0 0 = W0) := hW0
  rw [hW0] at C1 NX12
  clear hW0
  go_upto_region 13 with (go_at_call 16; with_reducible refine C1.mono ?_; rintro e v13 ⟨rfl, b13⟩)
  have X7 := (R12.out.next b13).alloc #[.int .i64 0, .int .u64 (W0 : Int)] 48
  have N7 := (NX12.out.next b13).next ((Below.refl _ _).alloc (Nat.le_refl _) (.cells #[.int .i64 0, .int .u64 (W0 : Int)] 48))
  clear R12 NX12 C1 b13
  generalize v13.alloc (.cells #[.int .i64 0, .int .u64 (W0 : Int)] 48) = v14 at *
  generalize v13.heap.size = x7 at *
  have R14 : Hid (Rf w v14 b ib ⟨⟨dw, dh, dl, dd, dr, di, db, de, false⟩, 0, 0 + 1, lfw⟩ cu jb (fun _ => zjs) (I.newI (I.roomN di)) (fun k => k = g ∨ k = h) [(x7, #[.int .i64 0, .int .u64 (W0 : Int)], 48), (hb, csH.setIfInBounds ho (.int .i64 nv), tH), (gB, #[.int .i64 0, .bool false, .slice (some ⟨hb, ho, none⟩) 1 hcap, .string gx], 34), (A, #[.int .i64 dw, .int .i64 dh, .int .i64 dl, .int .i64 dd, .int .i64 dr, .int .i64 di, .int .i64 db, .bool de, .bool false], 23)]) := X7
  have NX14 : Hid (Nxt v14 cu g 0 1 cp h q9 WS.length mc 0 W0) := N7
  clear X7 N7
  have C1 := left_any R14.out.nx.nb
  simp only at C1
  have dB := R14.out.at (k := gB) (cs := #[.int .i64 0, .bool false, .slice (some ⟨hb, ho, none⟩) 1 hcap, .string gx]) (t := 34) (by simp)
  have d0 := (dB.cell 0).trans rfl
  have d1 := (dB.cell 1).trans rfl
  have d2 := (dB.cell 2).trans rfl
  have d3 := (dB.cell 3).trans rfl
  simp only [List.getElem?_toArray, List.getElem?_cons_zero, List.getElem?_cons_succ] at d0 d1 d2 d3
  clear dB
  have R_v14 := R14
  have NX_v14 := NX14
  clear R14 NX14
  go_upto_region 15 with (go_at_call 15; with_reducible refine C1.mono ?_; rintro e v15 ⟨rfl, rfl⟩)
  clear d0 d1 d2 d3 C1
  have b_a : Below v14.heap.size v14 (v14.alloc (.cells #[.int .i64 0, .bool false, .slice (some ⟨hb, ho, none⟩) 1 hcap, .string gx] 34)) := (Below.refl _ _).alloc (Nat.le_refl _) _
  have X_a := R_v14.out.alloc #[.int .i64 0, .bool false, .slice (some ⟨hb, ho, none⟩) 1 hcap, .string gx] 34
  have N_a := NX_v14.out.next b_a
  have F_a := R_v14.out.fresh
  have G_a : g ≠ v14.heap.size ∧ h ≠ v14.heap.size := ⟨Nat.ne_of_lt NX_v14.out.lt.1, Nat.ne_of_lt NX_v14.out.lt.2⟩
  clear R_v14 NX_v14 b_a
  generalize v14.alloc (.cells #[.int .i64 0, .bool false, .slice (some ⟨hb, ho, none⟩) 1 hcap, .string gx] 34) = v15 at *
  generalize v14.heap.size = oB at *
  have R_v15 : Hid (Rf w v15 b ib ⟨⟨dw, dh, dl, dd, dr, di, db, de, false⟩, 0, 0 + 1, lfw⟩ cu jb (fun _ => zjs) (I.newI (I.roomN di)) (fun k => k = g ∨ k = h) [(oB, #[.int .i64 0, .bool false, .slice (some ⟨hb, ho, none⟩) 1 hcap, .string gx], 34), (x7, #[.int .i64 0, .int .u64 (W0 : Int)], 48), (hb, csH.setIfInBounds ho (.int .i64 nv), tH), (gB, #[.int .i64 0, .bool false, .slice (some ⟨hb, ho, none⟩) 1 hcap, .string gx], 34), (A, #[.int .i64 dw, .int .i64 dh, .int .i64 dl, .int .i64 dd, .int .i64 dr, .int .i64 di, .int .i64 db, .bool de, .bool false], 23)]) := show _ from X_a
  have NX_v15 : Hid (Nxt v15 cu g 0 1 cp h q9 WS.length mc 0 W0) := N_a
  have FR_oB : Hid (∀ x ∈ ([(x7, #[.int .i64 0, .int .u64 (W0 : Int)], 48), (hb, csH.setIfInBounds ho (.int .i64 nv), tH), (gB, #[.int .i64 0, .bool false, .slice (some ⟨hb, ho, none⟩) 1 hcap, .string gx], 34), (A, #[.int .i64 dw, .int .i64 dh, .int .i64 dl, .int .i64 dd, .int .i64 dr, .int .i64 di, .int .i64 db, .bool de, .bool false], 23)] : LB), x.1 ≠ oB) := F_a
  have GR_oB : Hid (g ≠ oB ∧ h ≠ oB) := G_a
  clear X_a N_a F_a G_a
  have dB := R_v15.out.at (k := oB) (cs := #[.int .i64 0, .bool false, .slice (some ⟨hb, ho, none⟩) 1 hcap, .string gx]) (t := 34) (by simp)
  have d0 := (dB.cell 0).trans rfl
  have fd0 := dB.free 0
  simp only [List.getElem?_toArray, List.getElem?_cons_zero] at d0
  clear dB
  go_upto_region 16 with fail
  clear d0
  have S_v16 : Hid (Rf w (v15.setCell ⟨oB, 0, none⟩ (.int .i64 1)) b ib ⟨⟨dw, dh, dl, dd, dr, di, db, de, false⟩, 0, 0 + 1, lfw⟩ cu jb (fun _ => zjs) (I.newI (I.roomN di)) (fun k => k = g ∨ k = h) [(oB, #[.int .i64 1, .bool false, .slice (some ⟨hb, ho, none⟩) 1 hcap, .string gx], 34), (x7, #[.int .i64 0, .int .u64 (W0 : Int)], 48), (hb, csH.setIfInBounds ho (.int .i64 nv), tH), (gB, #[.int .i64 0, .bool false, .slice (some ⟨hb, ho, none⟩) 1 hcap, .string gx], 34), (A, #[.int .i64 dw, .int .i64 dh, .int .i64 dl, .int .i64 dd, .int .i64 dr, .int .i64 di, .int .i64 db, .bool de, .bool false], 23)]) := show _ from by
    have := R_v15.out.set FR_oB.out 0 (.int .i64 1)
    simp only [List.setIfInBounds_toArray, List.set_cons_zero] at this
    exact this
  have M_v16 : Hid (Nxt (v15.setCell ⟨oB, 0, none⟩ (.int .i64 1)) cu g 0 1 cp h q9 WS.length mc 0 W0) := NX_v15.out.far GR_oB.out
  clear R_v15 NX_v15
  generalize v15.setCell ⟨oB, 0, none⟩ (.int .i64 1) = v16 at *
  have R_v16 := S_v16
  have NX_v16 := M_v16
  clear S_v16 M_v16
  clear fd0
  have dB := R_v16.out.at (k := gB) (cs := #[.int .i64 0, .bool false, .slice (some ⟨hb, ho, none⟩) 1 hcap, .string gx]) (t := 34) (by simp)
  have d0 := (dB.cell 0).trans rfl
  have d1 := (dB.cell 1).trans rfl
  have d2 := (dB.cell 2).trans rfl
  have d3 := (dB.cell 3).trans rfl
  simp only [List.getElem?_toArray, List.getElem?_cons_zero, List.getElem?_cons_succ] at d0 d1 d2 d3
  clear dB
  go_upto_region 17 with fail
  clear d0 d1 d2 d3
  have b_b : Below v16.heap.size v16 (v16.alloc (.cells #[.int .i64 0, .bool false, .slice (some ⟨hb, ho, none⟩) 1 hcap, .string gx] 34)) := (Below.refl _ _).alloc (Nat.le_refl _) _
  have X_b := R_v16.out.alloc #[.int .i64 0, .bool false, .slice (some ⟨hb, ho, none⟩) 1 hcap, .string gx] 34
  have N_b := NX_v16.out.next b_b
  have F_b := R_v16.out.fresh
  have G_b : g ≠ v16.heap.size ∧ h ≠ v16.heap.size := ⟨Nat.ne_of_lt NX_v16.out.lt.1, Nat.ne_of_lt NX_v16.out.lt.2⟩
  clear R_v16 NX_v16 b_b
  generalize v16.alloc (.cells #[.int .i64 0, .bool false, .slice (some ⟨hb, ho, none⟩) 1 hcap, .string gx] 34) = v17 at *
  generalize v16.heap.size = fB at *
  have R_v17 : Hid (Rf w v17 b ib ⟨⟨dw, dh, dl, dd, dr, di, db, de, false⟩, 0, 0 + 1, lfw⟩ cu jb (fun _ => zjs) (I.newI (I.roomN di)) (fun k => k = g ∨ k = h) [(fB, #[.int .i64 0, .bool false, .slice (some ⟨hb, ho, none⟩) 1 hcap, .string gx], 34), (oB, #[.int .i64 1, .bool false, .slice (some ⟨hb, ho, none⟩) 1 hcap, .string gx], 34), (x7, #[.int .i64 0, .int .u64 (W0 : Int)], 48), (hb, csH.setIfInBounds ho (.int .i64 nv), tH), (gB, #[.int .i64 0, .bool false, .slice (some ⟨hb, ho, none⟩) 1 hcap, .string gx], 34), (A, #[.int .i64 dw, .int .i64 dh, .int .i64 dl, .int .i64 dd, .int .i64 dr, .int .i64 di, .int .i64 db, .bool de, .bool false], 23)]) := show _ from X_b
  have NX_v17 : Hid (Nxt v17 cu g 0 1 cp h q9 WS.length mc 0 W0) := N_b
  have FR_fB : Hid (∀ x ∈ ([(oB, #[.int .i64 1, .bool false, .slice (some ⟨hb, ho, none⟩) 1 hcap, .string gx], 34), (x7, #[.int .i64 0, .int .u64 (W0 : Int)], 48), (hb, csH.setIfInBounds ho (.int .i64 nv), tH), (gB, #[.int .i64 0, .bool false, .slice (some ⟨hb, ho, none⟩) 1 hcap, .string gx], 34), (A, #[.int .i64 dw, .int .i64 dh, .int .i64 dl, .int .i64 dd, .int .i64 dr, .int .i64 di, .int .i64 db, .bool de, .bool false], 23)] : LB), x.1 ≠ fB) := F_b
  have GR_fB : Hid (g ≠ fB ∧ h ≠ fB) := G_b
  clear X_b N_b F_b G_b
  have dA := R_v17.out.at (k := A) (cs := #[.int .i64 dw, .int .i64 dh, .int .i64 dl, .int .i64 dd, .int .i64 dr, .int .i64 di, .int .i64 db, .bool de, .bool false]) (t := 23) (by simp)
  obtain ⟨k0, k1, k2, k3, k4, k5, k6, k7, k8⟩ := ncfg dA
  clear dA
  have C1 := G.rnodes_any ⟨dw, dh, dl, dd, dr, di, db, de, false⟩ v17
  simp only [G.cfv, G.cfc] at C1
  obtain ⟨nd, hnd⟩ : ∃ z, G.nod ⟨dw, dh, dl, dd, dr, di, db, de, false⟩ = z := ⟨_, rfl⟩
  have HND : Hid (G.nod ⟨dw, dh, dl, dd, dr, di, db, de, false⟩ = nd) := hnd
  rw [hnd] at C1
  clear hnd
  go_wp2_with fail
  go_at_call 17
  with_reducible refine C1.mono ?_
  rintro e v18 ⟨rfl, b18⟩
  clear k0 k1 k2 k3 k4 k5 k6 k7 k8 C1
  have R_v18 : Hid (Rf w v18 b ib ⟨⟨dw, dh, dl, dd, dr, di, db, de, false⟩, 0, 0 + 1, lfw⟩ cu jb (fun _ => zjs) (I.newI (I.roomN di)) (fun k => k = g ∨ k = h) [(fB, #[.int .i64 0, .bool false, .slice (some ⟨hb, ho, none⟩) 1 hcap, .string gx], 34), (oB, #[.int .i64 1, .bool false, .slice (some ⟨hb, ho, none⟩) 1 hcap, .string gx], 34), (x7, #[.int .i64 0, .int .u64 (W0 : Int)], 48), (hb, csH.setIfInBounds ho (.int .i64 nv), tH), (gB, #[.int .i64 0, .bool false, .slice (some ⟨hb, ho, none⟩) 1 hcap, .string gx], 34), (A, #[.int .i64 dw, .int .i64 dh, .int .i64 dl, .int .i64 dd, .int .i64 dr, .int .i64 di, .int .i64 db, .bool de, .bool false], 23)]) := show _ from R_v17.out.next b18
  have NX_v18 : Hid (Nxt v18 cu g 0 1 cp h q9 WS.length mc 0 W0) := NX_v17.out.next b18
  clear R_v17 NX_v17 b18
  have dB := (R_v18.out.at (k := fB) (cs := #[.int .i64 0, .bool false, .slice (some ⟨hb, ho, none⟩) 1 hcap, .string gx]) (t := 34) (by simp)).alloc (.cells #[.int .i64 nd, .int .i64 0] 37)
  have d2 := (dB.cell 2).trans rfl
  have fd2 := dB.free 2
  simp only [List.getElem?_toArray, List.getElem?_cons_zero, List.getElem?_cons_succ] at d2
  clear dB
  go_upto_region 18 with fail
  clear d2 fd2
  have lt18 : fB < v18.heap.size := (R_v18.out.at (k := fB) (cs := #[.int .i64 0, .bool false, .slice (some ⟨hb, ho, none⟩) 1 hcap, .string gx]) (t := 34) (by simp)).lt
  have b_c : Below v18.heap.size v18 (v18.alloc (.cells #[.int .i64 nd, .int .i64 0] 37)) := (Below.refl _ _).alloc (Nat.le_refl _) _
  have X_c := R_v18.out.alloc #[.int .i64 nd, .int .i64 0] 37
  have N_c := NX_v18.out.next b_c
  have F_c := R_v18.out.fresh
  have G_c : g ≠ v18.heap.size ∧ h ≠ v18.heap.size := ⟨Nat.ne_of_lt NX_v18.out.lt.1, Nat.ne_of_lt NX_v18.out.lt.2⟩
  clear R_v18 NX_v18 b_c
  generalize v18.alloc (.cells #[.int .i64 nd, .int .i64 0] 37) = v19 at *
  generalize v18.heap.size = fh at *
  have R_v19 : Hid (Rf w v19 b ib ⟨⟨dw, dh, dl, dd, dr, di, db, de, false⟩, 0, 0 + 1, lfw⟩ cu jb (fun _ => zjs) (I.newI (I.roomN di)) (fun k => k = g ∨ k = h) [(fh, #[.int .i64 nd, .int .i64 0], 37), (fB, #[.int .i64 0, .bool false, .slice (some ⟨hb, ho, none⟩) 1 hcap, .string gx], 34), (oB, #[.int .i64 1, .bool false, .slice (some ⟨hb, ho, none⟩) 1 hcap, .string gx], 34), (x7, #[.int .i64 0, .int .u64 (W0 : Int)], 48), (hb, csH.setIfInBounds ho (.int .i64 nv), tH), (gB, #[.int .i64 0, .bool false, .slice (some ⟨hb, ho, none⟩) 1 hcap, .string gx], 34), (A, #[.int .i64 dw, .int .i64 dh, .int .i64 dl, .int .i64 dd, .int .i64 dr, .int .i64 di, .int .i64 db, .bool de, .bool false], 23)]) := show _ from X_c
  have NX_v19 : Hid (Nxt v19 cu g 0 1 cp h q9 WS.length mc 0 W0) := N_c
  have FR_fh : Hid (∀ x ∈ ([(fB, #[.int .i64 0, .bool false, .slice (some ⟨hb, ho, none⟩) 1 hcap, .string gx], 34), (oB, #[.int .i64 1, .bool false, .slice (some ⟨hb, ho, none⟩) 1 hcap, .string gx], 34), (x7, #[.int .i64 0, .int .u64 (W0 : Int)], 48), (hb, csH.setIfInBounds ho (.int .i64 nv), tH), (gB, #[.int .i64 0, .bool false, .slice (some ⟨hb, ho, none⟩) 1 hcap, .string gx], 34), (A, #[.int .i64 dw, .int .i64 dh, .int .i64 dl, .int .i64 dd, .int .i64 dr, .int .i64 di, .int .i64 db, .bool de, .bool false], 23)] : LB), x.1 ≠ fh) := F_c
  have GR_fh : Hid (g ≠ fh ∧ h ≠ fh) := G_c
  clear X_c N_c F_c G_c
  have S_v19 : Hid (Rf w v19 b ib ⟨⟨dw, dh, dl, dd, dr, di, db, de, false⟩, 0, 0 + 1, lfw⟩ cu jb (fun _ => zjs) (I.newI (I.roomN di)) (fun k => k = g ∨ k = h) [(fB, #[.int .i64 0, .bool false, .slice (some ⟨hb, ho, none⟩) 1 hcap, .string gx], 34), (fh, #[.int .i64 nd, .int .i64 0], 37), (oB, #[.int .i64 1, .bool false, .slice (some ⟨hb, ho, none⟩) 1 hcap, .string gx], 34), (x7, #[.int .i64 0, .int .u64 (W0 : Int)], 48), (hb, csH.setIfInBounds ho (.int .i64 nv), tH), (gB, #[.int .i64 0, .bool false, .slice (some ⟨hb, ho, none⟩) 1 hcap, .string gx], 34), (A, #[.int .i64 dw, .int .i64 dh, .int .i64 dl, .int .i64 dd, .int .i64 dr, .int .i64 di, .int .i64 db, .bool de, .bool false], 23)]) := show _ from R_v19.out.sub fun x hx => by
    simp only [List.mem_cons, List.mem_nil_iff, or_false] at hx ⊢
    rcases hx with rfl | rfl | rfl | rfl | rfl | rfl | rfl <;> simp
  have FQ : Hid (∀ x ∈ ([(fh, #[.int .i64 nd, .int .i64 0], 37), (oB, #[.int .i64 1, .bool false, .slice (some ⟨hb, ho, none⟩) 1 hcap, .string gx], 34), (x7, #[.int .i64 0, .int .u64 (W0 : Int)], 48), (hb, csH.setIfInBounds ho (.int .i64 nv), tH), (gB, #[.int .i64 0, .bool false, .slice (some ⟨hb, ho, none⟩) 1 hcap, .string gx], 34), (A, #[.int .i64 dw, .int .i64 dh, .int .i64 dl, .int .i64 dd, .int .i64 dr, .int .i64 di, .int .i64 db, .bool de, .bool false], 23)] : LB), x.1 ≠ fB) := show _ from fun x hx => by
    rcases List.mem_cons.1 hx with rfl | hx
    · show fh ≠ fB; omega
    · exact FR_fB.out x hx
  clear R_v19 FR_fB lt18
  have R_v19 := S_v19
  have FR_fB := FQ
  clear S_v19 FQ
  have S_v20 : Hid (Rf w (v19.setCell ⟨fB, 2, none⟩ (.slice (some ⟨fh, 0, none⟩) 1 1)) b ib ⟨⟨dw, dh, dl, dd, dr, di, db, de, false⟩, 0, 0 + 1, lfw⟩ cu jb (fun _ => zjs) (I.newI (I.roomN di)) (fun k => k = g ∨ k = h) [(fB, #[.int .i64 0, .bool false, .slice (some ⟨fh, 0, none⟩) 1 1, .string gx], 34), (fh, #[.int .i64 nd, .int .i64 0], 37), (oB, #[.int .i64 1, .bool false, .slice (some ⟨hb, ho, none⟩) 1 hcap, .string gx], 34), (x7, #[.int .i64 0, .int .u64 (W0 : Int)], 48), (hb, csH.setIfInBounds ho (.int .i64 nv), tH), (gB, #[.int .i64 0, .bool false, .slice (some ⟨hb, ho, none⟩) 1 hcap, .string gx], 34), (A, #[.int .i64 dw, .int .i64 dh, .int .i64 dl, .int .i64 dd, .int .i64 dr, .int .i64 di, .int .i64 db, .bool de, .bool false], 23)]) := show _ from by
    have := R_v19.out.set FR_fB.out 2 (.slice (some ⟨fh, 0, none⟩) 1 1)
    simp only [List.setIfInBounds_toArray, List.set_cons_succ, List.set_cons_zero] at this
    exact this
  have M_v20 : Hid (Nxt (v19.setCell ⟨fB, 2, none⟩ (.slice (some ⟨fh, 0, none⟩) 1 1)) cu g 0 1 cp h q9 WS.length mc 0 W0) := NX_v19.out.far GR_fB.out
  clear R_v19 NX_v19
  generalize v19.setCell ⟨fB, 2, none⟩ (.slice (some ⟨fh, 0, none⟩) 1 1) = v20 at *
  have R_v20 := S_v20
  have NX_v20 := M_v20
  clear S_v20 M_v20
  have dB := R_v20.out.at (k := gB) (cs := #[.int .i64 0, .bool false, .slice (some ⟨hb, ho, none⟩) 1 hcap, .string gx]) (t := 34) (by simp)
  have d0 := (dB.cell 0).trans rfl
  have d1 := (dB.cell 1).trans rfl
  have d2 := (dB.cell 2).trans rfl
  have d3 := (dB.cell 3).trans rfl
  simp only [List.getElem?_toArray, List.getElem?_cons_zero, List.getElem?_cons_succ] at d0 d1 d2 d3
  clear dB
  go_upto_region 19 with fail
  clear d0 d1 d2 d3
  have b_d : Below v20.heap.size v20 (v20.alloc (.cells #[.int .i64 0, .bool false, .slice (some ⟨hb, ho, none⟩) 1 hcap, .string gx] 34)) := (Below.refl _ _).alloc (Nat.le_refl _) _
  have X_d := R_v20.out.alloc #[.int .i64 0, .bool false, .slice (some ⟨hb, ho, none⟩) 1 hcap, .string gx] 34
  have N_d := NX_v20.out.next b_d
  have F_d := R_v20.out.fresh
  have G_d : g ≠ v20.heap.size ∧ h ≠ v20.heap.size := ⟨Nat.ne_of_lt NX_v20.out.lt.1, Nat.ne_of_lt NX_v20.out.lt.2⟩
  clear R_v20 NX_v20 b_d
  generalize v20.alloc (.cells #[.int .i64 0, .bool false, .slice (some ⟨hb, ho, none⟩) 1 hcap, .string gx] 34) = v21 at *
  generalize v20.heap.size = cB at *
  have R_v21 : Hid (Rf w v21 b ib ⟨⟨dw, dh, dl, dd, dr, di, db, de, false⟩, 0, 0 + 1, lfw⟩ cu jb (fun _ => zjs) (I.newI (I.roomN di)) (fun k => k = g ∨ k = h) [(cB, #[.int .i64 0, .bool false, .slice (some ⟨hb, ho, none⟩) 1 hcap, .string gx], 34), (fB, #[.int .i64 0, .bool false, .slice (some ⟨fh, 0, none⟩) 1 1, .string gx], 34), (fh, #[.int .i64 nd, .int .i64 0], 37), (oB, #[.int .i64 1, .bool false, .slice (some ⟨hb, ho, none⟩) 1 hcap, .string gx], 34), (x7, #[.int .i64 0, .int .u64 (W0 : Int)], 48), (hb, csH.setIfInBounds ho (.int .i64 nv), tH), (gB, #[.int .i64 0, .bool false, .slice (some ⟨hb, ho, none⟩) 1 hcap, .string gx], 34), (A, #[.int .i64 dw, .int .i64 dh, .int .i64 dl, .int .i64 dd, .int .i64 dr, .int .i64 di, .int .i64 db, .bool de, .bool false], 23)]) := show _ from X_d
  have NX_v21 : Hid (Nxt v21 cu g 0 1 cp h q9 WS.length mc 0 W0) := N_d
  have FR_cB : Hid (∀ x ∈ ([(fB, #[.int .i64 0, .bool false, .slice (some ⟨fh, 0, none⟩) 1 1, .string gx], 34), (fh, #[.int .i64 nd, .int .i64 0], 37), (oB, #[.int .i64 1, .bool false, .slice (some ⟨hb, ho, none⟩) 1 hcap, .string gx], 34), (x7, #[.int .i64 0, .int .u64 (W0 : Int)], 48), (hb, csH.setIfInBounds ho (.int .i64 nv), tH), (gB, #[.int .i64 0, .bool false, .slice (some ⟨hb, ho, none⟩) 1 hcap, .string gx], 34), (A, #[.int .i64 dw, .int .i64 dh, .int .i64 dl, .int .i64 dd, .int .i64 dr, .int .i64 di, .int .i64 db, .bool de, .bool false], 23)] : LB), x.1 ≠ cB) := F_d
  have GR_cB : Hid (g ≠ cB ∧ h ≠ cB) := G_d
  clear X_d N_d F_d G_d
  have dB := R_v21.out.at (k := cB) (cs := #[.int .i64 0, .bool false, .slice (some ⟨hb, ho, none⟩) 1 hcap, .string gx]) (t := 34) (by simp)
  have d1 := (dB.cell 1).trans rfl
  have fd1 := dB.free 1
  simp only [List.getElem?_toArray, List.getElem?_cons_zero, List.getElem?_cons_succ] at d1
  clear dB
  go_upto_region 20 with fail
  clear d1
  have S_v22 : Hid (Rf w (v21.setCell ⟨cB, 1, none⟩ (.bool true)) b ib ⟨⟨dw, dh, dl, dd, dr, di, db, de, false⟩, 0, 0 + 1, lfw⟩ cu jb (fun _ => zjs) (I.newI (I.roomN di)) (fun k => k = g ∨ k = h) [(cB, #[.int .i64 0, .bool true, .slice (some ⟨hb, ho, none⟩) 1 hcap, .string gx], 34), (fB, #[.int .i64 0, .bool false, .slice (some ⟨fh, 0, none⟩) 1 1, .string gx], 34), (fh, #[.int .i64 nd, .int .i64 0], 37), (oB, #[.int .i64 1, .bool false, .slice (some ⟨hb, ho, none⟩) 1 hcap, .string gx], 34), (x7, #[.int .i64 0, .int .u64 (W0 : Int)], 48), (hb, csH.setIfInBounds ho (.int .i64 nv), tH), (gB, #[.int .i64 0, .bool false, .slice (some ⟨hb, ho, none⟩) 1 hcap, .string gx], 34), (A, #[.int .i64 dw, .int .i64 dh, .int .i64 dl, .int .i64 dd, .int .i64 dr, .int .i64 di, .int .i64 db, .bool de, .bool false], 23)]) := show _ from by
    have := R_v21.out.set FR_cB.out 1 (.bool true)
    simp only [List.setIfInBounds_toArray, List.set_cons_succ, List.set_cons_zero] at this
    exact this
  have M_v22 : Hid (Nxt (v21.setCell ⟨cB, 1, none⟩ (.bool true)) cu g 0 1 cp h q9 WS.length mc 0 W0) := NX_v21.out.far GR_cB.out
  clear R_v21 NX_v21
  generalize v21.setCell ⟨cB, 1, none⟩ (.bool true) = v22 at *
  have R_v22 := S_v22
  have NX_v22 := M_v22
  clear S_v22 M_v22
  clear fd1
  obtain ⟨-, -, p3, p4, p5, p6⟩ := ref_facts (c := ⟨dw, dh, dl, dd, dr, di, db, de, false⟩) rfl NC.out.1.l1 NC.out.2.1 NC.out.2.2.2.2 NC.out.2.2.2.1 HOK.out (nv := nv) NVI.out (0 + 1) lfw
  rw [HND.out] at p4
  have PF : Hid (sendE ⟨⟨dw, dh, dl, dd, dr, di, db, de, false⟩, 0, 0 + 1, lfw⟩ ⟨1, false, [(nv, q)], gx⟩ = 5 ∧ sendE ⟨⟨dw, dh, dl, dd, dr, di, db, de, false⟩, 0, 0 + 1, lfw⟩ ⟨0, false, [(nd, 0)], gx⟩ = 5 ∧ sendE ⟨⟨dw, dh, dl, dd, dr, di, db, de, false⟩, 0, 0 + 1, lfw⟩ ⟨0, true, [(nv, q)], gx⟩ = 10 ∧ sendE ⟨⟨dw, dh, dl, dd, dr, di, db, de, false⟩, 0, 0 + 1, lfw⟩ ⟨0, false, [], ⟨#[]⟩⟩ = 1) := ⟨p3, p4, p5, p6⟩
  clear p3 p4 p5 p6 o1 o2 o3 o4 o5 o6
  have dB := R_v22.out.at (k := oB) (cs := #[.int .i64 1, .bool false, .slice (some ⟨hb, ho, none⟩) 1 hcap, .string gx]) (t := 34) (by simp)
  have d0 := (dB.cell 0).trans rfl
  have d1 := (dB.cell 1).trans rfl
  have d2 := (dB.cell 2).trans rfl
  have d3 := (dB.cell 3).trans rfl
  simp only [List.getElem?_toArray, List.getElem?_cons_zero, List.getElem?_cons_succ] at d0 d1 d2 d3
  clear dB
  have rd := HRD.out v22 (R_v22.out.at (by simp))
  have CB := nback_any 1 false _ hcap gx [(nv, q)] v22 (by simp) rd
  unfold PcR at CB
  simp only [pcv, pcc, List.length_cons, List.length_nil, Nat.zero_add] at CB
  go_wp2_with fail
  go_at_call 11
  with_reducible refine CB.mono ?_
  rintro e y1 ⟨a1, cap1, rfl, -, x2, x3⟩
  clear CB rd d0 d1 d2 d3
  have C1 := send_err (R_v22.out.next x3).nx.nb 1 false a1 cap1 gx [(nv, q)] (by simp) HX64.out.2 x2 (by rw [PF.out.1]; decide)
  rw [PF.out.1] at C1
  simp only [pcv, pcc, List.length_cons, List.length_nil, Nat.zero_add] at C1
  go_wp2_with fail
  go_at_call 10
  with_reducible refine C1.mono ?_
  rintro e z1 ⟨rfl, x4⟩
  have b1 : Below v22.heap.size v22 z1 := x3.trans (x4.mono x3.size)
  clear C1 x2 x3 x4
  have S_z1 : Hid (Rf w z1 b ib ⟨⟨dw, dh, dl, dd, dr, di, db, de, false⟩, 0, 0 + 1, lfw⟩ cu jb (fun _ => zjs) (I.newI (I.roomN di)) (fun k => k = g ∨ k = h) [(cB, #[.int .i64 0, .bool true, .slice (some ⟨hb, ho, none⟩) 1 hcap, .string gx], 34), (fB, #[.int .i64 0, .bool false, .slice (some ⟨fh, 0, none⟩) 1 1, .string gx], 34), (fh, #[.int .i64 nd, .int .i64 0], 37), (oB, #[.int .i64 1, .bool false, .slice (some ⟨hb, ho, none⟩) 1 hcap, .string gx], 34), (x7, #[.int .i64 0, .int .u64 (W0 : Int)], 48), (hb, csH.setIfInBounds ho (.int .i64 nv), tH), (gB, #[.int .i64 0, .bool false, .slice (some ⟨hb, ho, none⟩) 1 hcap, .string gx], 34), (A, #[.int .i64 dw, .int .i64 dh, .int .i64 dl, .int .i64 dd, .int .i64 dr, .int .i64 di, .int .i64 db, .bool de, .bool false], 23)]) := show _ from R_v22.out.next b1
  have M_z1 : Hid (Nxt z1 cu g 0 1 cp h q9 WS.length mc 0 W0) := NX_v22.out.next b1
  clear R_v22 NX_v22 b1
  have R_z1 := S_z1
  have NX_z1 := M_z1
  clear S_z1 M_z1
  have dB := R_z1.out.at (k := fB) (cs := #[.int .i64 0, .bool false, .slice (some ⟨fh, 0, none⟩) 1 1, .string gx]) (t := 34) (by simp)
  have d0 := (dB.cell 0).trans rfl
  have d1 := (dB.cell 1).trans rfl
  have d2 := (dB.cell 2).trans rfl
  have d3 := (dB.cell 3).trans rfl
  simp only [List.getElem?_toArray, List.getElem?_cons_zero, List.getElem?_cons_succ] at d0 d1 d2 d3
  clear dB
  have rd := (show Rd z1 (some ⟨fh, 0, none⟩) (pc [(nd, 0)]) from rd_two (R_z1.out.at (k := fh) (cs := #[.int .i64 nd, .int .i64 0]) (t := 37) (by simp)))
  have CB := nback_any 0 false _ 1 gx [(nd, 0)] z1 (by simp) rd
  unfold PcR at CB
  simp only [pcv, pcc, List.length_cons, List.length_nil, Nat.zero_add] at CB
  go_wp2_with fail
  go_at_call 11
  with_reducible refine CB.mono ?_
  rintro e y2 ⟨a2, cap2, rfl, -, x2, x3⟩
  clear CB rd d0 d1 d2 d3
  have C1 := send_err (R_z1.out.next x3).nx.nb 0 false a2 cap2 gx [(nd, 0)] (by simp) HX64.out.2 x2 (by rw [PF.out.2.1]; decide)
  rw [PF.out.2.1] at C1
  simp only [pcv, pcc, List.length_cons, List.length_nil, Nat.zero_add] at C1
  go_wp2_with fail
  go_at_call 10
  with_reducible refine C1.mono ?_
  rintro e z2 ⟨rfl, x4⟩
  have b2 : Below z1.heap.size z1 z2 := x3.trans (x4.mono x3.size)
  clear C1 x2 x3 x4
  have S_z2 : Hid (Rf w z2 b ib ⟨⟨dw, dh, dl, dd, dr, di, db, de, false⟩, 0, 0 + 1, lfw⟩ cu jb (fun _ => zjs) (I.newI (I.roomN di)) (fun k => k = g ∨ k = h) [(cB, #[.int .i64 0, .bool true, .slice (some ⟨hb, ho, none⟩) 1 hcap, .string gx], 34), (fB, #[.int .i64 0, .bool false, .slice (some ⟨fh, 0, none⟩) 1 1, .string gx], 34), (fh, #[.int .i64 nd, .int .i64 0], 37), (oB, #[.int .i64 1, .bool false, .slice (some ⟨hb, ho, none⟩) 1 hcap, .string gx], 34), (x7, #[.int .i64 0, .int .u64 (W0 : Int)], 48), (hb, csH.setIfInBounds ho (.int .i64 nv), tH), (gB, #[.int .i64 0, .bool false, .slice (some ⟨hb, ho, none⟩) 1 hcap, .string gx], 34), (A, #[.int .i64 dw, .int .i64 dh, .int .i64 dl, .int .i64 dd, .int .i64 dr, .int .i64 di, .int .i64 db, .bool de, .bool false], 23)]) := show _ from R_z1.out.next b2
  have M_z2 : Hid (Nxt z2 cu g 0 1 cp h q9 WS.length mc 0 W0) := NX_z1.out.next b2
  clear R_z1 NX_z1 b2
  have R_z2 := S_z2
  have NX_z2 := M_z2
  clear S_z2 M_z2
  have dB := R_z2.out.at (k := cB) (cs := #[.int .i64 0, .bool true, .slice (some ⟨hb, ho, none⟩) 1 hcap, .string gx]) (t := 34) (by simp)
  have d0 := (dB.cell 0).trans rfl
  have d1 := (dB.cell 1).trans rfl
  have d2 := (dB.cell 2).trans rfl
  have d3 := (dB.cell 3).trans rfl
  simp only [List.getElem?_toArray, List.getElem?_cons_zero, List.getElem?_cons_succ] at d0 d1 d2 d3
  clear dB
  have rd := HRD.out z2 (R_z2.out.at (by simp))
  have CB := nback_any 0 true _ hcap gx [(nv, q)] z2 (by simp) rd
  unfold PcR at CB
  simp only [pcv, pcc, List.length_cons, List.length_nil, Nat.zero_add] at CB
  go_wp2_with fail
  go_at_call 11
  with_reducible refine CB.mono ?_
  rintro e y3 ⟨a3, cap3, rfl, -, x2, x3⟩
  clear CB rd d0 d1 d2 d3
  have C1 := send_err (R_z2.out.next x3).nx.nb 0 true a3 cap3 gx [(nv, q)] (by simp) HX64.out.2 x2 (by rw [PF.out.2.2.1]; decide)
  rw [PF.out.2.2.1] at C1
  simp only [pcv, pcc, List.length_cons, List.length_nil, Nat.zero_add] at C1
  go_wp2_with fail
  go_at_call 10
  with_reducible refine C1.mono ?_
  rintro e z3 ⟨rfl, x4⟩
  have b3 : Below z2.heap.size z2 z3 := x3.trans (x4.mono x3.size)
  clear C1 x2 x3 x4
  have S_z3 : Hid (Rf w z3 b ib ⟨⟨dw, dh, dl, dd, dr, di, db, de, false⟩, 0, 0 + 1, lfw⟩ cu jb (fun _ => zjs) (I.newI (I.roomN di)) (fun k => k = g ∨ k = h) [(cB, #[.int .i64 0, .bool true, .slice (some ⟨hb, ho, none⟩) 1 hcap, .string gx], 34), (fB, #[.int .i64 0, .bool false, .slice (some ⟨fh, 0, none⟩) 1 1, .string gx], 34), (fh, #[.int .i64 nd, .int .i64 0], 37), (oB, #[.int .i64 1, .bool false, .slice (some ⟨hb, ho, none⟩) 1 hcap, .string gx], 34), (x7, #[.int .i64 0, .int .u64 (W0 : Int)], 48), (hb, csH.setIfInBounds ho (.int .i64 nv), tH), (gB, #[.int .i64 0, .bool false, .slice (some ⟨hb, ho, none⟩) 1 hcap, .string gx], 34), (A, #[.int .i64 dw, .int .i64 dh, .int .i64 dl, .int .i64 dd, .int .i64 dr, .int .i64 di, .int .i64 db, .bool de, .bool false], 23)]) := show _ from R_z2.out.next b3
  have M_z3 : Hid (Nxt z3 cu g 0 1 cp h q9 WS.length mc 0 W0) := NX_z2.out.next b3
  clear R_z2 NX_z2 b3
  have R_z3 := S_z3
  have NX_z3 := M_z3
  clear S_z3 M_z3
  have C1 := send_err R_z3.out.nx.nb 0 false none 0 ⟨#[]⟩ [] (by simp) (by decide) (fun j v hj => by simp [pc] at hj) (by rw [PF.out.2.2.2]; decide)
  rw [PF.out.2.2.2] at C1
  simp only [pcv, pcc, List.length_nil] at C1
  go_upto_region 22 with (go_at_call 10; with_reducible refine C1.mono ?_; rintro e z4 ⟨rfl, b4⟩)
  clear C1 PF HND
  have S_z4 : Hid (Rf w z4 b ib ⟨⟨dw, dh, dl, dd, dr, di, db, de, false⟩, 0, 0 + 1, lfw⟩ cu jb (fun _ => zjs) (I.newI (I.roomN di)) (fun k => k = g ∨ k = h) [(cB, #[.int .i64 0, .bool true, .slice (some ⟨hb, ho, none⟩) 1 hcap, .string gx], 34), (fB, #[.int .i64 0, .bool false, .slice (some ⟨fh, 0, none⟩) 1 1, .string gx], 34), (fh, #[.int .i64 nd, .int .i64 0], 37), (oB, #[.int .i64 1, .bool false, .slice (some ⟨hb, ho, none⟩) 1 hcap, .string gx], 34), (x7, #[.int .i64 0, .int .u64 (W0 : Int)], 48), (hb, csH.setIfInBounds ho (.int .i64 nv), tH), (gB, #[.int .i64 0, .bool false, .slice (some ⟨hb, ho, none⟩) 1 hcap, .string gx], 34), (A, #[.int .i64 dw, .int .i64 dh, .int .i64 dl, .int .i64 dd, .int .i64 dr, .int .i64 di, .int .i64 db, .bool de, .bool false], 23)]) := show _ from R_z3.out.next b4
  have M_z4 : Hid (Nxt z4 cu g 0 1 cp h q9 WS.length mc 0 W0) := NX_z3.out.next b4
  clear R_z3 NX_z3 b4
  have R_z4 := S_z4
  have NX_z4 := M_z4
  clear S_z4 M_z4
  have C1 := rwords_any 0 false (some ⟨hb, ho, none⟩) hcap gx [(nv, q)] z4 (by simp) HX64.out.2 (HRD.out z4 (R_z4.out.at (by simp)))
  rw [wordsR_ok OG.out, HWS.out] at C1
  simp only [pcv, pcc, List.length_cons, List.length_nil, Nat.zero_add] at C1
  have dB := R_z4.out.at (k := gB) (cs := #[.int .i64 0, .bool false, .slice (some ⟨hb, ho, none⟩) 1 hcap, .string gx]) (t := 34) (by simp)
  have d0 := (dB.cell 0).trans rfl
  have d1 := (dB.cell 1).trans rfl
  have d2 := (dB.cell 2).trans rfl
  have d3 := (dB.cell 3).trans rfl
  simp only [List.getElem?_toArray, List.getElem?_cons_zero, List.getElem?_cons_succ] at d0 d1 d2 d3
  clear dB
  go_upto_region 23 with (go_at_call 12; with_reducible refine C1.mono ?_; rintro e z5 ⟨aw, capw, rfl, wl, wr, b5⟩)
  clear C1 d0 d1 d2 d3
  have S_z5 : Hid (Rf w z5 b ib ⟨⟨dw, dh, dl, dd, dr, di, db, de, false⟩, 0, 0 + 1, lfw⟩ cu jb (fun _ => zjs) (I.newI (I.roomN di)) (fun k => k = g ∨ k = h) [(cB, #[.int .i64 0, .bool true, .slice (some ⟨hb, ho, none⟩) 1 hcap, .string gx], 34), (fB, #[.int .i64 0, .bool false, .slice (some ⟨fh, 0, none⟩) 1 1, .string gx], 34), (fh, #[.int .i64 nd, .int .i64 0], 37), (oB, #[.int .i64 1, .bool false, .slice (some ⟨hb, ho, none⟩) 1 hcap, .string gx], 34), (x7, #[.int .i64 0, .int .u64 (W0 : Int)], 48), (hb, csH.setIfInBounds ho (.int .i64 nv), tH), (gB, #[.int .i64 0, .bool false, .slice (some ⟨hb, ho, none⟩) 1 hcap, .string gx], 34), (A, #[.int .i64 dw, .int .i64 dh, .int .i64 dl, .int .i64 dd, .int .i64 dr, .int .i64 di, .int .i64 db, .bool de, .bool false], 23)]) := show _ from R_z4.out.next b5
  have M_z5 : Hid (Nxt z5 cu g 0 1 cp h q9 WS.length mc 0 W0) := NX_z4.out.next b5
  clear R_z4 NX_z4 b5
  have R_z5 := S_z5
  have NX_z5 := M_z5
  clear S_z5 M_z5
  obtain ⟨wb, wo, rfl⟩ : ∃ h o, aw = some ⟨h, o, none⟩ := wr.at0 (by rw [vw_len]; have := HWL.out; omega)
  have RW : Hid (Rd z5 (some ⟨wb, wo, none⟩) (vw WS)) := wr
  have WC : Hid (∀ y, Below z5.heap.size z5 y → ∀ k, k < WS.length → y.cell? ⟨wb, wo + k, none⟩ = some (.int .u64 ((WS.getD k 0 : Nat) : Int))) := show _ from fun y hy k hk => by
    obtain ⟨g9, o9, e9, hg9, c9⟩ := RW.out k (.int .u64 ((WS.getD k 0 : Nat) : Int)) (by unfold vw; rw [List.getElem?_map, List.getD_eq_getElem?_getD, List.getElem?_eq_getElem hk]; rfl)
    simp only [Option.some.injEq, Addr.mk.injEq] at e9
    obtain ⟨rfl, rfl, _⟩ := e9
    exact (hy.cell (p := ⟨wb, wo + k, none⟩) hg9).trans c9
  have g1 : 0 < WS.length := by have := HWL.out; omega
  have g2 : (0 : Int) < (WS.length : Int) := by omega
  have wl' := wl
  have g3 : (WS.length : Int) ≤ (capw : Int) := by omega
  clear wr
  have c0 := WC.out z5 (Below.refl _ _) 0 g1
  rw [Nat.add_zero, HW0.out] at c0
  have hW0 : W0 < 18446744073709551616 := by
    rw [← HW0.out]
    refine HWT.out _ ?_
    rw [List.getD_eq_getElem?_getD, List.getElem?_eq_getElem g1]
    exact List.getElem_mem _
  have C1 : Calls Tryz.prog 18 #[.pointer (some ⟨b, 0, none⟩), .int .i64 5, .int .i64 0, .int .u64 (W0 : Int)] z5 fun e w' => e = .returned (.int .i64 1) ∧ Below z5.heap.size z5 w' := take_none z5.heap.size b (some ⟨b, 0, none⟩) 5 0 W0 z5 z5 (Below.refl _ _) (look_any b z5) (at_out b 5 0 z5 (by decide))
  go_upto_region 24 with (go_at_call 18; with_reducible refine C1.mono ?_; rintro e z6 ⟨rfl, b6⟩)
  clear C1 c0
  have WC6 : Hid (∀ y, Below z6.heap.size z6 y → ∀ k, k < WS.length → y.cell? ⟨wb, wo + k, none⟩ = some (.int .u64 ((WS.getD k 0 : Nat) : Int))) := show _ from fun y hy k hk => WC.out y (b6.trans (hy.mono b6.size)) k hk
  clear WC RW
  have S_z6 : Hid (Rf w z6 b ib ⟨⟨dw, dh, dl, dd, dr, di, db, de, false⟩, 0, 0 + 1, lfw⟩ cu jb (fun _ => zjs) (I.newI (I.roomN di)) (fun k => k = g ∨ k = h) [(cB, #[.int .i64 0, .bool true, .slice (some ⟨hb, ho, none⟩) 1 hcap, .string gx], 34), (fB, #[.int .i64 0, .bool false, .slice (some ⟨fh, 0, none⟩) 1 1, .string gx], 34), (fh, #[.int .i64 nd, .int .i64 0], 37), (oB, #[.int .i64 1, .bool false, .slice (some ⟨hb, ho, none⟩) 1 hcap, .string gx], 34), (x7, #[.int .i64 0, .int .u64 (W0 : Int)], 48), (hb, csH.setIfInBounds ho (.int .i64 nv), tH), (gB, #[.int .i64 0, .bool false, .slice (some ⟨hb, ho, none⟩) 1 hcap, .string gx], 34), (A, #[.int .i64 dw, .int .i64 dh, .int .i64 dl, .int .i64 dd, .int .i64 dr, .int .i64 di, .int .i64 db, .bool de, .bool false], 23)]) := show _ from R_z5.out.next b6
  have M_z6 : Hid (Nxt z6 cu g 0 1 cp h q9 WS.length mc 0 W0) := NX_z5.out.next b6
  clear R_z5 NX_z5 b6
  have R_z6 := S_z6
  have NX_z6 := M_z6
  clear S_z6 M_z6
  have CT2 : ∀ y : Gw z6, Calls Tryz.prog 18 #[.pointer (some ⟨b, 0, none⟩), .int .i64 0, .int .i64 dl, .int .u64 (W0 : Int)] y.v fun e w' => e = .returned (.int .i64 1) ∧ Below y.v.heap.size y.v w' := fun y => by
    refine take_none y.v.heap.size b (some ⟨b, 0, none⟩) 0 dl W0 y.v y.v (Below.refl _ _) (look_any b _) ?_
    by_cases h8 : 8 ≤ dl
    · exact at_out b 0 dl y.v (Or.inr (Or.inr (Or.inr h8)))
    · have hl1 : 1 ≤ dl := NC.out.1.l1
      obtain ⟨l', hl'⟩ : ∃ l' : Nat, dl = (l' : Int) := ⟨dl.toNat, by omega⟩
      subst hl'
      refine at_in b 0 l' _ y.v (by decide) (by omega) ?_
      have := (R_z6.out.next y.le).nx.nb.cj (k := 0 * 8 + l') (by omega)
      rw [this]
      unfold jp
      rw [if_neg (by show ¬ (0 * 8 + l' < 40 ∧ (((0 * 8 + l') % 8 : Nat) : Int) < (l' : Int)); omega)]
  have y0 : ∀ y : Gw z6, y.v.cell? ⟨wb, wo, none⟩ = some (.int .u64 (W0 : Int)) := fun y => by
    have := WC6.out y.v y.le 0 g1
    rw [Nat.add_zero, HW0.out] at this
    exact this
  have y2 : ∀ y : Gw z6, y.v.cell? ⟨A, 2, none⟩ = some (.int .i64 dl) := fun y => (((R_z6.out.next y.le).at (k := A) (cs := #[.int .i64 dw, .int .i64 dh, .int .i64 dl, .int .i64 dd, .int .i64 dr, .int .i64 di, .int .i64 db, .bool de, .bool false]) (t := 23) (by simp)).cell 2).trans rfl
  refine region_gw (by kernel_rfl) (by kernel_rfl) ?_
  repeat (first
    | go_big_quiet_skip
    | quiet_step (first
      | (go_at_call 18; exact quiet_below (CT2 _))))
  refine wpQuiet_nil ?_
  intro z7 hw'
  obtain ⟨⟨u', b7⟩, e⟩ := hw'
  obtain rfl : z7 = u' := e
  clear CT2 y0 y2
  have WC7 : Hid (∀ k, k < WS.length → z7.cell? ⟨wb, wo + k, none⟩ = some (.int .u64 ((WS.getD k 0 : Nat) : Int))) := show _ from fun k hk => WC6.out z7 b7 k hk
  clear WC6
  have S_z7 : Hid (Rf w z7 b ib ⟨⟨dw, dh, dl, dd, dr, di, db, de, false⟩, 0, 0 + 1, lfw⟩ cu jb (fun _ => zjs) (I.newI (I.roomN di)) (fun k => k = g ∨ k = h) [(cB, #[.int .i64 0, .bool true, .slice (some ⟨hb, ho, none⟩) 1 hcap, .string gx], 34), (fB, #[.int .i64 0, .bool false, .slice (some ⟨fh, 0, none⟩) 1 1, .string gx], 34), (fh, #[.int .i64 nd, .int .i64 0], 37), (oB, #[.int .i64 1, .bool false, .slice (some ⟨hb, ho, none⟩) 1 hcap, .string gx], 34), (x7, #[.int .i64 0, .int .u64 (W0 : Int)], 48), (hb, csH.setIfInBounds ho (.int .i64 nv), tH), (gB, #[.int .i64 0, .bool false, .slice (some ⟨hb, ho, none⟩) 1 hcap, .string gx], 34), (A, #[.int .i64 dw, .int .i64 dh, .int .i64 dl, .int .i64 dd, .int .i64 dr, .int .i64 di, .int .i64 db, .bool de, .bool false], 23)]) := show _ from R_z6.out.next b7
  have M_z7 : Hid (Nxt z7 cu g 0 1 cp h q9 WS.length mc 0 W0) := NX_z6.out.next b7
  clear R_z6 NX_z6 b7
  have R_z7 := S_z7
  have NX_z7 := M_z7
  clear S_z7 M_z7
  obtain ⟨Wl, hWl⟩ : ∃ z, WS.getD (WS.length - 1) 0 = z := ⟨_, rfl⟩
  have hWl2 : Wl = (tlF gx).word := by rw [← hWl]; exact HWE.out
  have cl := WC7.out (WS.length - 1) (by omega)
  rw [hWl] at cl
  obtain ⟨k9, hk9⟩ : ∃ k, WS.length = k + 1 := ⟨WS.length - 1, by omega⟩
  have cl9 : z7.cell? ⟨wb, wo + k9, none⟩ = some (.int .u64 (Wl : Int)) := by
    have e1 : WS.length - 1 = k9 := by omega
    rw [e1] at cl
    exact cl
  have g5 : IntKind.i64.wrap ((WS.length : Int) - 1) = (k9 : Int) := by
    have := HWL.out
    rw [IntWalk.i64_in _ (by omega)]
    omega
  have g6 : (k9 : Int) < (WS.length : Int) := by omega
  have g7 : (0 : Int) ≤ (k9 : Int) := by omega
  have g8 : (k9 : Int) ≤ 100 := by have := HWL.out; omega
  have hWlt : Wl < 18446744073709551616 := by
    rw [← hWl]
    refine HWT.out _ ?_
    rw [List.getD_eq_getElem?_getD, List.getElem?_eq_getElem (show WS.length - 1 < WS.length by omega)]
    exact List.getElem_mem _
  have CT : Calls Tryz.prog 18 #[.pointer (some ⟨b, 0, none⟩), .int .i64 0, .int .i64 0, .int .u64 (Wl : Int)] z7 fun e w' => e = .returned (.int .i64 13) ∧ Rf w w' b ib ⟨⟨dw, dh, dl, dd, dr, di, db, de, false⟩, 0, 0 + 1, lfw⟩ cu jb (fun _ => zjs) (I.newI (I.roomN di)) (fun k => k = g ∨ k = h) [(cB, #[.int .i64 0, .bool true, .slice (some ⟨hb, ho, none⟩) 1 hcap, .string gx], 34), (fB, #[.int .i64 0, .bool false, .slice (some ⟨fh, 0, none⟩) 1 1, .string gx], 34), (fh, #[.int .i64 nd, .int .i64 0], 37), (oB, #[.int .i64 1, .bool false, .slice (some ⟨hb, ho, none⟩) 1 hcap, .string gx], 34), (x7, #[.int .i64 0, .int .u64 (W0 : Int)], 48), (hb, csH.setIfInBounds ho (.int .i64 nv), tH), (gB, #[.int .i64 0, .bool false, .slice (some ⟨hb, ho, none⟩) 1 hcap, .string gx], 34), (A, #[.int .i64 dw, .int .i64 dh, .int .i64 dl, .int .i64 dd, .int .i64 dr, .int .i64 di, .int .i64 db, .bool de, .bool false], 23)] ∧ Nxt w' cu g 0 1 cp h q9 WS.length mc 0 W0 := by
    have hl1 : 1 ≤ dl := NC.out.1.l1
    have hl2 : dl ≤ 8 := NC.out.1.l2
    obtain ⟨q1, q2, q3⟩ := tail_none (I.newI (I.roomN di)) gx
    rw [← hWl2] at q1 q2 q3
    refine (R_z7.out.nx.take (p := 0) (l := 0) (W := Wl) (by decide) (by show ((0 : Nat) : Int) < dl; omega) hl2 hWlt (by decide)).mono ?_
    rintro e w' ⟨rfl, n1, k1⟩
    refine ⟨by rw [q1], ?_, NX_z7.out.kp k1 (Or.inr (Or.inl rfl)) (Or.inr (Or.inr rfl))⟩
    rw [q2, q3] at n1
    have e9 : updS (fun _ => zjs) (0 * 8 + 0) zjs = fun _ => zjs := by
      funext k
      unfold updS
      split <;> rfl
    rw [e9] at n1
    exact R_z7.out.kp n1 k1
  clear cl hWl2 hWl hWlt R_z7 NX_z7 WC7
  go_upto_region 26 with (go_at_call 18; with_reducible refine CT.mono ?_; rintro e z8 ⟨rfl, R8, N8⟩)
  clear CT cl9 g5 g6 g7 g8
  have C1 := first_any R8.nx.nb (by show lfw ≠ 0; have := HWL.out; have := HLF.out; omega) N8
  go_upto_region 27 with (go_at_call 16; with_reducible refine C1.mono ?_; rintro e z9 ⟨rfl, b9⟩)
  have R10 := (R8.next b9).alloc #[.int .i64 0, .int .u64 (W0 : Int)] 48
  clear C1 R8 N8 b9
  generalize z9.alloc (.cells #[.int .i64 0, .int .u64 (W0 : Int)] 48) = z10 at *
  generalize z9.heap.size = x18 at *
  have R11 : Hid (Rf w z10 b ib ⟨⟨dw, dh, dl, dd, dr, di, db, de, false⟩, 0, 0 + 1, lfw⟩ cu jb (fun _ => zjs) (I.newI (I.roomN di)) (fun k => k = g ∨ k = h) [(x18, #[.int .i64 0, .int .u64 (W0 : Int)], 48), (x7, #[.int .i64 0, .int .u64 (W0 : Int)], 48)]) := show _ from R10.sub fun x hx => by
    simp only [List.mem_cons, List.mem_nil_iff, or_false] at hx ⊢
    rcases hx with rfl | rfl <;> simp
  clear R10
  have C1 := R11.out.nx.begun fun _ _ => rfl
  go_wp2_with fail
  go_at_call 19
  with_reducible refine C1.mono ?_
  rintro e z11 ⟨rfl, b11⟩
  have R12 : Hid (Rf w z11 b ib ⟨⟨dw, dh, dl, dd, dr, di, db, de, false⟩, 0, 0 + 1, lfw⟩ cu jb (fun _ => zjs) (I.newI (I.roomN di)) (fun k => k = g ∨ k = h) [(x18, #[.int .i64 0, .int .u64 (W0 : Int)], 48), (x7, #[.int .i64 0, .int .u64 (W0 : Int)], 48)]) := show _ from R11.out.next b11
  clear R11 C1 b11
  have C1 := R12.out.nx.waits
  rw [show ((I.newI (I.roomN di)).W.length : Int) = 0 from rfl] at C1
  go_wp2_with fail
  go_at_call 20
  with_reducible refine C1.mono ?_
  rintro e z12 ⟨rfl, n12, k12⟩
  have R13 : Hid (Rf w z12 b ib ⟨⟨dw, dh, dl, dd, dr, di, db, de, false⟩, 0, 0 + 1, lfw⟩ cu jb (fun _ => zjs) (I.newI (I.roomN di)) (fun k => k = g ∨ k = h) [(x18, #[.int .i64 0, .int .u64 (W0 : Int)], 48), (x7, #[.int .i64 0, .int .u64 (W0 : Int)], 48)]) := show _ from R12.out.kp n12 k12
  clear R12 C1 n12 k12
  have C1 := left_any R13.out.nx.nb
  have C2 := sent_any R13.out.nx.nb
  have C3 := R13.out.nx.tell
  rw [show I.tellB (I.newI (I.roomN di)) = false by unfold I.tellB; simp [I.rdy, I.newI, I.pick]] at C3
  simp only at C1 C2
  have dA := R13.out.at (k := x18) (cs := #[.int .i64 0, .int .u64 (W0 : Int)]) (t := 48) (by simp)
  have dB := R13.out.at (k := x7) (cs := #[.int .i64 0, .int .u64 (W0 : Int)]) (t := 48) (by simp)
  have a0 := (dA.cell 0).trans rfl
  have a1 := (dA.cell 1).trans rfl
  have q0 := (dB.cell 0).trans rfl
  have q1 := (dB.cell 1).trans rfl
  simp only [List.getElem?_toArray, List.getElem?_cons_zero, List.getElem?_cons_succ] at a0 a1 q0 q1
  clear dA dB R13
  go_wp2_with (first
    | (go_at_call 15; with_reducible refine C1.mono ?_; rintro e z13 ⟨rfl, rfl⟩)
    | (go_at_call 21; with_reducible refine C2.mono ?_; rintro e z13 ⟨rfl, rfl⟩)
    | (go_at_call 22; with_reducible refine C3.mono ?_; rintro e z13 ⟨rfl, n13, k13⟩))
  go_ret
  exact ⟨by simp, n13.bl⟩
end Go.Proofs.YtoejpngdkcnnhaaGreat
