/-
 The document's lane, by value: Take. (Written by gen_rf14u.py.)
-/
import Derived.Test.YtmmegmonmilkcaaGreatDoorRfA
namespace Go.Proofs.YtmmegmonmilkcaaGreatDoor
open Go.RowKit
abbrev ouc (o : KO) : Array Value := (zq4 o.port o.lane (o.word : Int) o.copy o.ends)
theorem next_of (r : Nat) (x : Nat) (t : List Nat) (port lane : Int) (cp : Bool) (ag en z : Bool) (he : en = decide (x % 4 = 3)) (ha : ag = (decide (x % 4 = 1) && (decide (port = 0) && (readR x).1.m))) (hz : z = (ag || en)) :
  nextK ⟨r, x :: t, 2, port, lane, cp⟩ x t = ⟨r, t, if z = true then 0 else 2, if z = true then 0 else port, if z = true then 0 else lane, !en && (ag || cp)⟩ := by
 subst hz he ha
 unfold nextK
 by_cases h3 : x % 4 = 3
 ·simp [h3]
 ·by_cases h1 : x % 4 = 1
  ·by_cases hp : port = 0
   ·cases hm : (readR x).1.m <;> simp [h1, hp]
   ·simp [h1, hp]
  ·simp [h3, h1]
set_option maxRecDepth 100000 in
set_option maxHeartbeats 4000000 in
theorem rtake14 (r : Nat) (x : Nat) (t : List Nat) (port lane : Int) (cp : Bool) (hx : x < 18446744073709551616) (a : Option Addr) (cap : Nat) (w : World) (hr : LaR w ⟨r, x :: t, 2, port, lane, cp⟩ a cap) :
  Calls Tryz.prog 65 #[lav ⟨r, x :: t, 2, port, lane, cp⟩ a cap] w fun e w' => ∃ a' cap', e = .returned (.tuple #[lav (nextK ⟨r, x :: t, 2, port, lane, cp⟩ x t) a' cap', .agg (ouc (outK ⟨r, x :: t, 2, port, lane, cp⟩ x)), .int .i64 0]) ∧ LaR w' (nextK ⟨r, x :: t, 2, port, lane, cp⟩ x t) a' cap' ∧ Below w.heap.size w w' ∧ Whence w.heap.size True a a' := by
 have RC := fun v => rread_any x hx v
 obtain ⟨g, o, rfl, hg, cw⟩ := hr.rd 0 (.int .u64 (x : Int)) (by rfl)
 have hle : (x :: t).length ≤ cap := hr.le
 have hmx := hr.mx
 have RT : Rd w (some ⟨g, o + 1, none⟩) (vw t) := fun j u hj => by
  obtain ⟨g', o', e1, h1, h2⟩ := hr.rd (j + 1) u (by simpa [vw] using hj)
  simp only [Option.some.injEq, Addr.mk.injEq] at e1
  obtain ⟨rfl, rfl, _⟩ := e1
  exact ⟨_, _, rfl, h1, by rw [← h2]; congr 2; omega⟩
 have X0 : Hid (Bx2 w (((w.alloc (.cells (lac ⟨r, x :: t, 2, port, lane, cp⟩ (some ⟨g, o, none⟩) cap) 100)).alloc (.cells zlac 100)).alloc (.cells (zq4 0 0 0 false false) 56)) w.heap.size (lac ⟨r, x :: t, 2, port, lane, cp⟩ (some ⟨g, o, none⟩) cap) zlac 100) := (Bx2.start _ _ _ _).next ((Below.refl _ _).alloc (Nat.le_refl _) _)
 have T0 : Hid (Bk (((w.alloc (.cells (lac ⟨r, x :: t, 2, port, lane, cp⟩ (some ⟨g, o, none⟩) cap) 100)).alloc (.cells zlac 100)).alloc (.cells (zq4 0 0 0 false false) 56)) (w.heap.size + 1 + 1) (zq4 0 0 0 false false) 56) := by
  have := Bk.new ((w.alloc (.cells (lac ⟨r, x :: t, 2, port, lane, cp⟩ (some ⟨g, o, none⟩) cap) 100)).alloc (.cells zlac 100)) (zq4 0 0 0 false false) 56
  rwa [show ((w.alloc (.cells (lac ⟨r, x :: t, 2, port, lane, cp⟩ (some ⟨g, o, none⟩) cap) 100)).alloc (.cells zlac 100)).heap.size = w.heap.size + 1 + 1 by simp] at this
 have CX : Hid ((((w.alloc (.cells (lac ⟨r, x :: t, 2, port, lane, cp⟩ (some ⟨g, o, none⟩) cap) 100)).alloc (.cells zlac 100)).alloc (.cells (zq4 0 0 0 false false) 56)).cell? ⟨g, o, none⟩ = some (.int .u64 (x : Int))) := by
  rw [← cw]
  exact ((((Below.refl w.heap.size w).alloc (Nat.le_refl _) _).alloc (by simp) _).alloc (by simp; omega) _).cell (p := ⟨g, o, none⟩) hg
 obtain ⟨⟨⟨fk, fs, fd, fq, fl, fm, fcc, fx⟩, er⟩, hRR⟩ : ∃ RR, readR x = RR := ⟨_, rfl⟩
 rw [hRR] at RC
 clear hr cw hg hx
 simp only [flv, flc] at RC
 have hk4 : x % 4 < 4 := Nat.mod_lt _ (by decide)
 have em : ((x : Int)).tmod 4 = ((x % 4 : Nat) : Int) := by rw [Int.tmod_eq_emod_of_nonneg (by omega)]; omega
 have RT2 : Rd w (if cap = 1 then some ⟨g, o, none⟩ else some ⟨g, o + 1, none⟩) (vw t) ∧ (if cap = 1 then some (⟨g, o, none⟩ : Addr) else some ⟨g, o + 1, none⟩) ≠ none ∧ ∀ x', (if cap = 1 then some (⟨g, o, none⟩ : Addr) else some ⟨g, o + 1, none⟩) = some x' → x'.block = g := by
  by_cases hc : cap = 1
  ·have : t = [] := List.eq_nil_of_length_eq_zero (by simp at hle; omega)
   subst this
   exact ⟨fun j u hj => by simp [vw] at hj, by simp [hc], fun x' e => by rw [if_pos hc] at e; cases e; rfl⟩
  ·rw [if_neg hc]
   exact ⟨RT, by simp, fun x' e => by cases e; rfl⟩
 have HRT : Hid (Rd w (if cap = 1 then some ⟨g, o, none⟩ else some ⟨g, o + 1, none⟩) (vw t) ∧ (if cap = 1 then some (⟨g, o, none⟩ : Addr) else some ⟨g, o + 1, none⟩) ≠ none ∧ ∀ x', (if cap = 1 then some (⟨g, o, none⟩ : Addr) else some ⟨g, o + 1, none⟩) = some x' → x'.block = g) := RT2
 clear RT2
 have HM : Hid (t.length + 1 ≤ cap ∧ cap ≤ maxLen) := show _ ∧ _ from ⟨hle, hmx⟩
 clear RT hle hmx
 obtain ⟨kd, hkd⟩ : ∃ kd, x % 4 = kd := ⟨_, rfl⟩
 obtain ⟨en, hen⟩ : ∃ en, en = decide (kd = 3) := ⟨_, rfl⟩
 obtain ⟨cpy, hcpy⟩ : ∃ cpy, cpy = (decide (port ≠ 0) && (cp && decide (kd ≠ 1))) := ⟨_, rfl⟩
 obtain ⟨ag, hag⟩ : ∃ ag, ag = (decide (kd = 1) && (decide (port = 0) && fm)) := ⟨_, rfl⟩
 obtain ⟨z, hz⟩ : ∃ z, z = (ag || en) := ⟨_, rfl⟩
 rw [next_of r x t port lane cp ag en z (by rw [hkd]; exact hen) (by rw [hkd, hRR]; exact hag) hz, show outK ⟨r, x :: t, 2, port, lane, cp⟩ x = ⟨port, lane, x, cpy, en⟩ by unfold outK; rw [hkd, hcpy, hen]]
 rw [hkd] at em hk4
 have HEN : Hid (en = decide (kd = 3)) := hen
 have HCP : Hid (cpy = (decide (port ≠ 0) && (cp && decide (kd ≠ 1)))) := hcpy
 have HAG : Hid (ag = (decide (kd = 1) && (decide (port = 0) && fm))) := hag
 have HZ : Hid (z = (ag || en)) := hz
 obtain ⟨ph9, hph⟩ : ∃ y : Int, y = (if z = true then 0 else 2) := ⟨_, rfl⟩
 obtain ⟨po9, hpo⟩ : ∃ y : Int, y = (if z = true then 0 else port) := ⟨_, rfl⟩
 obtain ⟨la9, hla⟩ : ∃ y : Int, y = (if z = true then 0 else lane) := ⟨_, rfl⟩
 rw [← hph, ← hpo, ← hla]
 have H9 : Hid (ph9 = (if z = true then 0 else 2) ∧ po9 = (if z = true then 0 else port) ∧ la9 = (if z = true then 0 else lane)) := show _ ∧ _ ∧ _ from ⟨hph, hpo, hla⟩
 have k3 : ((kd : Int) == 3) = en := by
  rw [HEN.out]
  by_cases h : kd = 3
  ·subst h; rfl
  ·rw [decide_eq_false h]; exact beq_eq_false_iff_ne.2 (by omega)
 have K3 : Hid (((kd : Int) == 3) = en) := k3
 have KK : Hid (((kd : Int) == 1) = decide (kd = 1)) := show _ = _ from by
  by_cases h : kd = 1
  ·subst h; rfl
  ·rw [decide_eq_false h]; exact beq_eq_false_iff_ne.2 (by omega)
 obtain ⟨cp9, hcp9⟩ : ∃ y : Bool, y = (!en && (ag || cp)) := ⟨_, rfl⟩
 rw [← hcp9]
 have HCP9 : Hid (cp9 = (!en && (ag || cp))) := hcp9
 clear hen hcpy hag hz hkd hRR hph hpo hla k3 hcp9
 simp only [lav, lac, zlac, ouc, List.length_cons] at X0 T0 CX ⊢
 generalize hn : t.length = m at X0 T0 CX HM ⊢
 have HN : Hid (t.length = m) := hn
 clear hn
 have e0 : ¬ ((m + 1 : Nat) : Int) = 0 := by omega
 have e1 : (0 : Int) < ((m + 1 : Nat) : Int) := by omega
 go_enter Tryz.func65, Tryz.ntmps65
 go_upto_region 1 with fail
 generalize ((w.alloc (.cells (zq2 (r : Int) 2 port lane (some ⟨g, o, none⟩) (m + 1) cap cp) 100)).alloc (.cells (zq2 0 0 0 0 none 0 0 false) 100)).alloc (.cells (zq4 0 0 0 false false) 56) = v at *
 generalize w.heap.size = b at *
 have y1 : v.cell? ⟨b, 1, none⟩ = some (.int .i64 2) := (X0.out.p.cell 1).trans rfl
 have y4 : v.cell? ⟨b, 4, none⟩ = some (.slice (some ⟨g, o, none⟩) (m + 1) cap) := (X0.out.p.cell 4).trans rfl
 have cx := CX.out
 go_upto_region 6 with fail
 go_upto_region 7 with (first
  | (go_at_call 48; (with_reducible refine (RC _).mono ?_); rintro e w1 ⟨rfl, h1⟩)
  | (refine wpList_store_bk rfl 112 (.tmp 6) (.tmp 29) rfl w1.heap.size (zq3 fk fs fd fq fl fm fcc fx) rfl rfl (Bk.new _ _ _) (by kernel_rfl) rfl rfl ?_; intro u s1 o1))
 have XA : Hid _ := (X0.out.next h1).next (below_new o1)
 have TA : Hid (Bk u (b + 1 + 1) (zq4 0 0 0 false false) 56) := (T0.out.next h1).next (below_new o1)
 have F0 : Hid (Bk u w1.heap.size (zq3 fk fs fd fq fl fm fcc fx) 112) := s1
 clear X0 T0 CX RC h1 cx y1 y4 s1 o1 e0 e1
 generalize w1.heap.size = q at *
 go_upto_region 8 with fail
 clear em hk4
 go_cut [9] from 34 to 52 (fun y wc => ∃ p, y = .pointer (some ⟨p, 0, none⟩) ∧ Bx2 w wc b (zq2 (r : Int) 2 port lane (some ⟨g, o, none⟩) (m + 1) cap cp) (zq2 0 0 0 0 none 0 0 false) 100 ∧ Bk wc (b + 1 + 1) (zq4 0 0 0 false false) 56 ∧ Bk wc p (zq4 port lane (x : Int) cpy en) 56 ∧ Bk wc q (zq3 fk fs fd fq fl fm fcc fx) 112)
 case first =>
  have y2 : u.cell? ⟨b, 2, none⟩ = some (.int .i64 port) := (XA.out.p.cell 2).trans rfl
  have y3 : u.cell? ⟨b, 3, none⟩ = some (.int .i64 lane) := (XA.out.p.cell 3).trans rfl
  have y5 : u.cell? ⟨b, 5, none⟩ = some (.bool cp) := (XA.out.p.cell 5).trans rfl
  have k3 := K3.out
  by_cases hp : port = 0
  ·have hb : (port != 0) = false := by rw [hp]; rfl
   obtain rfl : cpy = false := by rw [HCP.out, hp]; rfl
   clear hp
   go_wp2_with (refine wpList_store_bk rfl 56 (.tmp 9) (.tmp 52) rfl u.heap.size (zq4 port lane (x : Int) false en) rfl rfl (Bk.new _ _ _) (by kernel_rfl) rfl rfl ?_; intro u2 s2 o2)
   go_meet
   exact ⟨u.heap.size, rfl, XA.out.next (below_new o2), TA.out.next (below_new o2), s2, F0.out.next (below_new o2)⟩
  ·have hb : (port != 0) = true := bne_iff_ne.2 hp
   cases cp with
   | false =>
    obtain rfl : cpy = false := by rw [HCP.out]; simp
    go_wp2_with (refine wpList_store_bk rfl 56 (.tmp 9) (.tmp 52) rfl u.heap.size (zq4 port lane (x : Int) false en) rfl rfl (Bk.new _ _ _) (by kernel_rfl) rfl rfl ?_; intro u2 s2 o2)
    go_meet
    exact ⟨u.heap.size, rfl, XA.out.next (below_new o2), TA.out.next (below_new o2), s2, F0.out.next (below_new o2)⟩
   | true =>
    have k1 : ((kd : Int) != 1) = cpy := by
     rw [HCP.out, bne, KK.out, decide_eq_true hp]
     by_cases h : kd = 1 <;> simp [h]
    go_wp2_with (refine wpList_store_bk rfl 56 (.tmp 9) (.tmp 52) rfl u.heap.size (zq4 port lane (x : Int) cpy en) rfl rfl (Bk.new _ _ _) (by kernel_rfl) rfl rfl ?_; intro u2 s2 o2)
    go_meet
    exact ⟨u.heap.size, rfl, XA.out.next (below_new o2), TA.out.next (below_new o2), s2, F0.out.next (below_new o2)⟩
 case rest =>
  obtain ⟨p, rfl, XB', TB', G0', F1'⟩ := hcut
  have XB : Hid _ := XB'
  have TB : Hid (Bk wc (b + 1 + 1) (zq4 0 0 0 false false) 56) := TB'
  have G0 : Hid (Bk wc p (zq4 port lane (x : Int) cpy en) 56) := G0'
  have F1 : Hid (Bk wc q (zq3 fk fs fd fq fl fm fcc fx) 112) := F1'
  clear XB' TB' G0' F1' XA TA F0
  have hqb : b ≠ q := bk_ne15 XB.out.p F1.out (by decide)
  have hqp : b ≠ p := bk_ne15 XB.out.p G0.out (by decide)
  have hb2 : b + 1 + 1 ≠ b := by omega
  have hc1 : m + 1 ≤ cap := HM.out.1
  have y4 : wc.cell? ⟨b, 4, none⟩ = some (.slice (some ⟨g, o, none⟩) (m + 1) cap) := (XB.out.p.cell 4).trans rfl
  have z4 := XB.out.p.free 4
  go_upto_region 10 with fail
  generalize (if cap = 1 then some (⟨g, o, none⟩ : Addr) else some ⟨g, o + 1, none⟩) = a9 at *
  have S1 : Hid (Bx2 w (wc.setCell ⟨b, 4, none⟩ (.slice a9 m (cap - 1))) b (zq2 (r : Int) 2 port lane a9 m (cap - 1) cp) (zq2 0 0 0 0 none 0 0 false) 100 ∧ Bk (wc.setCell ⟨b, 4, none⟩ (.slice a9 m (cap - 1))) (b + 1 + 1) (zq4 0 0 0 false false) 56 ∧ Bk (wc.setCell ⟨b, 4, none⟩ (.slice a9 m (cap - 1))) p (zq4 port lane (x : Int) cpy en) 56) := show _ ∧ _ ∧ _ from ⟨by simpa using XB.out.set 4 (.slice a9 m (cap - 1)), TB.out.far hb2, G0.out.far hqp.symm⟩
  have F2 : Hid (Bk (wc.setCell ⟨b, 4, none⟩ (.slice a9 m (cap - 1))) q (zq3 fk fs fd fq fl fm fcc fx) 112) := F1.out.far hqb.symm
  clear XB TB G0 F1 y4 z4
  generalize wc.setCell ⟨b, 4, none⟩ (.slice a9 m (cap - 1)) = u1 at *
  go_cut [10] from 57 to 67 (fun y wc => y = .bool ag ∧ u1 = wc)
  case first =>
   have y2 : u1.cell? ⟨b, 2, none⟩ = some (.int .i64 port) := (S1.out.1.p.cell 2).trans rfl
   have f5 : u1.cell? ⟨q, 5, none⟩ = some (.bool fm) := (F2.out.cell 5).trans rfl
   by_cases h1 : kd = 1
   ·have k1 : ((kd : Int) == 1) = true := by rw [KK.out, decide_eq_true h1]
    have h2 : ag = (decide (port = 0) && fm) := by rw [HAG.out, decide_eq_true h1]; rfl
    have H2 : Hid (ag = (decide (port = 0) && fm)) := h2
    clear h1 h2
    by_cases hp : port = 0
    ·have hb : (port == 0) = true := beq_iff_eq.2 hp
     obtain rfl : ag = fm := by rw [H2.out, decide_eq_true hp]; rfl
     clear hp
     go_wp2_with fail
     go_meet
     exact ⟨rfl, rfl⟩
    ·have hb : (port == 0) = false := beq_eq_false_iff_ne.2 hp
     obtain rfl : ag = false := by rw [H2.out, decide_eq_false hp]; rfl
     clear hp
     go_wp2_with fail
     go_meet
     exact ⟨rfl, rfl⟩
   ·have k1 : ((kd : Int) == 1) = false := by rw [KK.out, decide_eq_false h1]
    obtain rfl : ag = false := by rw [HAG.out, decide_eq_false h1]; rfl
    clear h1
    go_wp2_with fail
    go_meet
    exact ⟨rfl, rfl⟩
  obtain ⟨rfl, rfl⟩ := hcut
  clear F2 HAG KK
  go_upto_if 68 with fail
  go_cut [] from 69 to 69 (fun wc => Bx2 w wc b (zq2 (r : Int) 2 port lane a9 m (cap - 1) (ag || cp)) (zq2 0 0 0 0 none 0 0 false) 100 ∧ Bk wc (b + 1 + 1) (zq4 0 0 0 false false) 56 ∧ Bk wc p (zq4 port lane (x : Int) cpy en) 56)
  case first =>
   cases ag with
   | false =>
    go_wp2_with fail
    go_meet
    exact S1.out
   | true =>
    have y5 : u1.cell? ⟨b, 5, none⟩ = some (.bool cp) := (S1.out.1.p.cell 5).trans rfl
    have z5 := S1.out.1.p.free 5
    go_wp2_with fail
    go_meet
    exact ⟨by simpa using S1.out.1.set 5 (.bool true), S1.out.2.1.far hb2, S1.out.2.2.far hqp.symm⟩
  clear S1
  have S2 : Hid (Bx2 w wc b (zq2 (r : Int) 2 port lane a9 m (cap - 1) (ag || cp)) (zq2 0 0 0 0 none 0 0 false) 100 ∧ Bk wc (b + 1 + 1) (zq4 0 0 0 false false) 56 ∧ Bk wc p (zq4 port lane (x : Int) cpy en) 56) := show _ ∧ _ ∧ _ from hcut
  clear hcut
  generalize wc = u2 at *
  have k3 := K3.out
  go_upto_if 71 with fail
  go_cut [] from 72 to 72 (fun wc => Bx2 w wc b (zq2 (r : Int) 2 port lane a9 m (cap - 1) cp9) (zq2 0 0 0 0 none 0 0 false) 100 ∧ Bk wc (b + 1 + 1) (zq4 0 0 0 false false) 56 ∧ Bk wc p (zq4 port lane (x : Int) cpy en) 56)
  case first =>
   cases en with
   | false =>
    obtain rfl : cp9 = (ag || cp) := HCP9.out
    go_wp2_with fail
    go_meet
    exact S2.out
   | true =>
    obtain rfl : cp9 = false := HCP9.out
    have y5 : u2.cell? ⟨b, 5, none⟩ = some (.bool (ag || cp)) := (S2.out.1.p.cell 5).trans rfl
    have z5 := S2.out.1.p.free 5
    go_wp2_with fail
    go_meet
    exact ⟨by simpa using S2.out.1.set 5 (.bool false), S2.out.2.1.far hb2, S2.out.2.2.far hqp.symm⟩
  clear S2
  have S3 : Hid (Bx2 w wc b (zq2 (r : Int) 2 port lane a9 m (cap - 1) cp9) (zq2 0 0 0 0 none 0 0 false) 100 ∧ Bk wc (b + 1 + 1) (zq4 0 0 0 false false) 56 ∧ Bk wc p (zq4 port lane (x : Int) cpy en) 56) := show _ ∧ _ ∧ _ from hcut
  clear hcut HCP9
  generalize wc = u3 at *
  go_upto_region 15 with fail
  go_cut [77] from 73 to 77 (fun y wc => y = .bool z ∧ u3 = wc)
  case first =>
   have hz := HZ.out
   cases ag with
   | false =>
    obtain rfl : z = en := by rw [hz]; rfl
    clear hz
    go_wp2_with fail
    go_meet
    exact ⟨rfl, rfl⟩
   | true =>
    obtain rfl : z = true := by rw [hz]; rfl
    clear hz
    go_wp2_with fail
    go_meet
    exact ⟨rfl, rfl⟩
  obtain ⟨rfl, rfl⟩ := hcut
  clear HZ k3
  go_upto_if 77 with fail
  go_cut [] from 78 to 80 (fun wc => Bx2 w wc b (zq2 (r : Int) ph9 po9 la9 a9 m (cap - 1) cp9) (zq2 0 0 0 0 none 0 0 false) 100 ∧ Bk wc (b + 1 + 1) (zq4 0 0 0 false false) 56 ∧ Bk wc p (zq4 port lane (x : Int) cpy en) 56)
  case first =>
   cases z with
   | false =>
    obtain ⟨h1, h2, h3⟩ := H9.out
    rw [if_neg Bool.false_ne_true] at h1 h2 h3
    subst h1 h2 h3
    go_wp2_with fail
    go_meet
    exact S3.out
   | true =>
    obtain ⟨h1, h2, h3⟩ := H9.out
    rw [if_pos rfl] at h1 h2 h3
    subst h1 h2 h3
    have y1 : u3.cell? ⟨b, 1, none⟩ = some (.int .i64 2) := (S3.out.1.p.cell 1).trans rfl
    have y2 : u3.cell? ⟨b, 2, none⟩ = some (.int .i64 port) := (S3.out.1.p.cell 2).trans rfl
    have y3 : u3.cell? ⟨b, 3, none⟩ = some (.int .i64 lane) := (S3.out.1.p.cell 3).trans rfl
    have z1 := S3.out.1.p.free 1
    have z2 := S3.out.1.p.free 2
    have z3 := S3.out.1.p.free 3
    go_wp2_with fail
    go_meet
    exact ⟨by simpa using ((S3.out.1.set 1 (.int .i64 0)).set 2 (.int .i64 0)).set 3 (.int .i64 0), ((S3.out.2.1.far hb2).far hb2).far hb2, ((S3.out.2.2.far hqp.symm).far hqp.symm).far hqp.symm⟩
  clear S3 H9
  have S4 : Hid (Bx2 w wc.drew b (zq2 (r : Int) ph9 po9 la9 a9 m (cap - 1) cp9) (zq2 0 0 0 0 none 0 0 false) 100 ∧ Bk wc.drew (b + 1 + 1) (zq4 0 0 0 false false) 56 ∧ Bk wc.drew p (zq4 port lane (x : Int) cpy en) 56) := show _ ∧ _ ∧ _ from ⟨hcut.1.next (Below.refl _ _).drew, hcut.2.1.next (Below.refl _ _).drew, hcut.2.2.next (Below.refl _ _).drew⟩
  clear hcut
  go_upto_region 19 with fail
  have T9 : Bk wc.drew b (zq2 (r : Int) ph9 po9 la9 a9 m (cap - 1) cp9) 100 ∧ Bk wc.drew p (zq4 port lane (x : Int) cpy en) 56 := ⟨S4.out.1.p, S4.out.2.2⟩
  refine wp_region_G (fun V => Bk V b (zq2 (r : Int) ph9 po9 la9 a9 m (cap - 1) cp9) 100 ∧ Bk V p (zq4 port lane (x : Int) cpy en) 56) 3 (by kernel_rfl) ?_
  refine wpAnyG_tk [3] (some 81) (i := 0) rfl rfl (by kernel_rfl) (fun _ _ _ h => h) (yields_bk rfl 100 (.tmp 1) rfl b rfl _ (fun V hSV => hSV.1) Tryz.underlying100 rfl (by kernel_rfl)) T9 ?r0
  try simp only [Act.put, sqa, sqz, sqs]
  refine wpAnyG_tk [3] (some 82) (i := 1) rfl rfl (by kernel_rfl) (fun _ _ _ h => h) (yields_bk rfl 56 (.tmp 9) rfl p rfl _ (fun V hSV => hSV.2) Tryz.underlying56 rfl (by kernel_rfl)) T9 ?r1
  try simp only [Act.put, sqa, sqz, sqs]
  generalize wc.drew = v9 at *
  refine wpAnyG_one (i := 2) (by kernel_rfl) rfl (fun K hK => ?_)
  refine step_store_bk rfl 100 (.tmp 2) (.tmp 81) rfl (b + 1) (zq2 (r : Int) ph9 po9 la9 a9 m (cap - 1) cp9) rfl rfl S4.out.1.r (by kernel_rfl) rfl rfl ?_
  intro vA svA ovA
  have hpb : p ≠ b + 1 := bk_ne15 S4.out.2.2 S4.out.1.r (by decide)
  have hpc : b ≠ b + 1 := by omega
  have TA : Bk vA b (zq2 (r : Int) ph9 po9 la9 a9 m (cap - 1) cp9) 100 ∧ Bk vA p (zq4 port lane (x : Int) cpy en) 56 := ⟨S4.out.1.p.on ovA hpc, S4.out.2.2.on ovA hpb⟩
  have TB : Bk vA (b + 1 + 1) (zq4 0 0 0 false false) 56 := S4.out.2.1.on ovA (by omega)
  have BA : Below b w vA := S4.out.1.bl.grown ovA (by have := S4.out.1.hb; have := S4.out.1.p.lt; have := S4.out.1.bl.size; omega) (fun q hq => by cases hq; omega)
  refine hK.out _ _ (Or.inr TA) ?_
  clear hK K
  try simp only [Act.put, sqa]
  refine wpAnyG_one (i := 3) (by kernel_rfl) rfl (fun K hK => ?_)
  refine step_store_bk rfl 56 (.tmp 3) (.tmp 82) rfl (b + 1 + 1) (zq4 port lane (x : Int) cpy en) rfl rfl TB (by kernel_rfl) rfl rfl ?_
  intro vB svB ovB
  refine hK.out _ _ (Or.inl (by kernel_rfl)) ?_
  clear hK K
  try simp only [Act.put]
  refine wpAnyG_one (i := 4) (by kernel_rfl) rfl (fun K hK => ?_)
  go_simp
  refine hK.out _ _ (Or.inl (by kernel_rfl)) ?_
  clear hK K
  try simp only [Act.put, sqa, sqz, sqs]
  refine wpAnyG_done (by kernel_rfl) ?_ _
  go_wp2_with fail
  have hb := S4.out.1.hb
  have RA := svA.on ovB (by omega)
  have BB : Below b w vB := BA.grown ovB (by have := S4.out.1.p.lt; have := ovA.size; have := S4.out.1.bl.size; omega) (fun q hq => by cases hq; omega)
  rw [← hb] at BB
  exact bodyPost_ret (v := .tuple #[.agg (zq2 (r : Int) ph9 po9 la9 a9 m (cap - 1) cp9), .agg (zq4 port lane (x : Int) cpy en), .int .i64 0]) (results_cct (P := Tryz.prog) Tryz.results65 _ _ (b + 1) (b + 1 + 1) 100 56 _ _ _ _ rfl RA Tryz.underlying100 rfl (by kernel_rfl) rfl svB Tryz.underlying56 rfl (by kernel_rfl)) rfl ⟨a9, cap - 1, rfl, ⟨HRT.out.1.below BB, fun h => absurd h HRT.out.2.1, by show t.length ≤ cap - 1; rw [HN.out]; have := HM.out.1; omega, Nat.le_trans (Nat.sub_le _ _) HM.out.2⟩, BB, fun x' e => Or.inl ⟨trivial, _, rfl, (HRT.out.2.2 x' e).symm⟩⟩
end Go.Proofs.YtmmegmonmilkcaaGreatDoor
