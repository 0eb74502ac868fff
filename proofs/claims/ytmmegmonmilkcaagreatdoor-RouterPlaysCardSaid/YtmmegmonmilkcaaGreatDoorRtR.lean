/-
  The program's router: what layers 6, 8 and 4 tell; the object as lists, its blocks; what a step keeps.
  Which lanes are for packets for several; a lane's steps keep Local's lane 0 (plain mathematics).
  The program's router: is there such a port, such a lane; the lane by which words come in.
  The program's router: Put, Len, Room, Phase; of one that isn't there. (Written by gen_rcal.py.)
-/
import Derived.Test.YtmmegmonmilkcaaGreatDoorRtMem

namespace Go.Proofs.YtmmegmonmilkcaaGreatDoor
open Go.RowKit
def telR (c : G.Cf) (node : Int) (f : Fl) (ch : Int) : Int := if f.c = true then G.stp c node f.d else G.chP (G.opt c node f.d) ch
def clsR (c : G.Cf) (k : Nat) : Nat × Nat := ((G.cla c (c.ca && decide ((k : Int) = c.l - 1))).1.toNat, (G.cla c (c.ca && decide ((k : Int) = c.l - 1))).2.toNat)
abbrev mvc (o : KO) (a b : Nat) : Array Value := (zq1 o.port o.lane (o.word : Int) o.copy o.ends (a : Int) (b : Int))
abbrev zmvc : Array Value := (zq1 0 0 0 false false 0 0)
def May (w : World) (g : Nat) (lb : Array Value) (m : Int → Bool) : Prop := Ent g ∧ ∀ (l : Int) (v : World), -9223372036854775808 ≤ l → l ≤ 9223372036854775807 → Below w.heap.size w v → Calls Tryz.prog g (#[.int .i64 l] ++ lb) v fun e v' => e = .returned (.bool (m l)) ∧ Below v.heap.size v v'
theorem May.next {w v : World} {g : Nat} {lb : Array Value} {m : Int → Bool} (h : May w g lb m) (hb : Below w.heap.size w v) : May v g lb m := ⟨h.1, fun l u h1 h2 hu => h.2 l u h1 h2 (hb.trans (hu.mono hb.size))⟩
def Rt (w : World) (b : Nat) (c : G.Cf) (S : RS) (F : Nat → Prop) : Prop := ROk S ∧ G.chk c = 0 ∧ (S.n : Int) = c.l ∧ ∃ Y, RtAt w b c S Y ∧ F = fpr Y
section
variable {w : World} {b : Nat} {c : G.Cf} {S : RS} {F : Nat → Prop}
theorem Rt.ok (h : Rt w b c S F) : ROk S := h.1
theorem Rt.chk (h : Rt w b c S F) : G.chk c = 0 := h.2.1
theorem Rt.n (h : Rt w b c S F) : (S.n : Int) = c.l := h.2.2.1
theorem Rt.lt (h : Rt w b c S F) : ∀ g, F g → g < w.heap.size := by
 obtain ⟨_, _, _, Y, h, rfl⟩ := h
 exact h.at_.lt
theorem Rt.kept {w' : World} {r : Option Nat} (h : Rt w b c S F) (hg : w.grownBy w' r) (hr : ∀ q, r = some q → ¬ F q) : Rt w' b c S F := by
 obtain ⟨ok, h1, h2, Y, h, rfl⟩ := h
 exact ⟨ok, h1, h2, Y, h.keep hg.size fun g hf => hg.block g (h.at_.lt g hf) fun e => hr g e.symm hf, rfl⟩
theorem Rt.next {w' : World} (h : Rt w b c S F) (hb : Below w.heap.size w w') : Rt w' b c S F := h.kept (r := none) ⟨hb.os, hb.tape, hb.output, hb.size, fun k hk _ => hb.block k hk⟩ (fun _ e => by cases e)
theorem Rt.far {k j : Nat} {x : Value} (h : Rt w b c S F) (hk : ¬ F k) : Rt (w.setCell ⟨k, j, none⟩ x) b c S F := h.kept (r := some k) ⟨rfl, rfl, rfl, by simp, fun i _ hne => Below.heap_setCell w ⟨k, j, none⟩ x i fun e => hne (by rw [e])⟩ (fun _ e => by cases e; exact hk)
end
theorem rtc_port (c : G.Cf) (node : Int) (Y : Lay) (n : Nat) {p : Nat} (hp : p < 5) : ∀ j, j < 4 → (rtc c node Y n)[10 + p * 4 + j]? = (ptc Y n p)[j]? := by
 intro j hj
 match p, hp, j, hj with
 | 0, _, 0, _ => rfl
 | 0, _, 1, _ => rfl
 | 0, _, 2, _ => rfl
 | 0, _, 3, _ => rfl
 | 1, _, 0, _ => rfl
 | 1, _, 1, _ => rfl
 | 1, _, 2, _ => rfl
 | 1, _, 3, _ => rfl
 | 2, _, 0, _ => rfl
 | 2, _, 1, _ => rfl
 | 2, _, 2, _ => rfl
 | 2, _, 3, _ => rfl
 | 3, _, 0, _ => rfl
 | 3, _, 1, _ => rfl
 | 3, _, 2, _ => rfl
 | 3, _, 3, _ => rfl
 | 4, _, 0, _ => rfl
 | 4, _, 1, _ => rfl
 | 4, _, 2, _ => rfl
 | 4, _, 3, _ => rfl
theorem RtAt.port {w : World} {b : Nat} {c : G.Cf} {S : RS} {Y : Lay} (h : RtAt w b c S Y) {p : Nat} (hp : p < 5) :
  w.cell? ⟨b, 10 + p * 4, none⟩ = some (.slice (some ⟨Y.lb p, 0, none⟩) S.n (Y.lc p)) ∧ w.cell? ⟨b, 10 + p * 4 + 1, none⟩ = some (.slice (some ⟨Y.ob p, 0, none⟩) S.n S.n) ∧ w.cell? ⟨b, 10 + p * 4 + 2, none⟩ = some (.pointer (some ⟨Y.gb p, 0, none⟩)) ∧ w.cell? ⟨b, 10 + p * 4 + 3, none⟩ = some (.pointer (some ⟨Y.mb p, 0, none⟩)) :=
 ⟨(h.blk.cell _).trans (rtc_port c S.node Y S.n hp 0 (by decide)), (h.blk.cell _).trans (rtc_port c S.node Y S.n hp 1 (by decide)), (h.blk.cell _).trans (rtc_port c S.node Y S.n hp 2 (by decide)), (h.blk.cell _).trans (rtc_port c S.node Y S.n hp 3 (by decide))⟩
theorem RtAt.conf {w : World} {b : Nat} {c : G.Cf} {S : RS} {Y : Lay} (h : RtAt w b c S Y) :
  w.cell? ⟨b, 0, none⟩ = some (.int .i64 c.w) ∧ w.cell? ⟨b, 1, none⟩ = some (.int .i64 c.h) ∧ w.cell? ⟨b, 2, none⟩ = some (.int .i64 c.l) ∧ w.cell? ⟨b, 3, none⟩ = some (.int .i64 c.d) ∧ w.cell? ⟨b, 4, none⟩ = some (.int .i64 c.r) ∧ w.cell? ⟨b, 5, none⟩ = some (.int .i64 c.i) ∧ w.cell? ⟨b, 6, none⟩ = some (.int .i64 c.b) ∧ w.cell? ⟨b, 7, none⟩ = some (.bool c.we) ∧ w.cell? ⟨b, 8, none⟩ = some (.bool c.ca) ∧ w.cell? ⟨b, 9, none⟩ = some (.int .i64 S.node) :=
 ⟨(h.blk.cell 0).trans rfl, (h.blk.cell 1).trans rfl, (h.blk.cell 2).trans rfl, (h.blk.cell 3).trans rfl, (h.blk.cell 4).trans rfl, (h.blk.cell 5).trans rfl, (h.blk.cell 6).trans rfl, (h.blk.cell 7).trans rfl, (h.blk.cell 8).trans rfl, (h.blk.cell 9).trans rfl⟩
theorem in_nat {S : RS} {p l : Int} (h : inRt S p l = true) : ∃ P L : Nat, p = (P : Int) ∧ l = (L : Int) ∧ P < 5 ∧ L < S.n ∧ ixRt S p l = P * S.n + L := by
 obtain ⟨h1, h2, h3, h4⟩ := inRt_iff.1 h
 exact ⟨p.toNat, l.toNat, by omega, by omega, by omega, by omega, rfl⟩
end Go.Proofs.YtmmegmonmilkcaaGreatDoor

namespace Go.Proofs.YtmmegmonmilkcaaGreatDoor
open Go.RowKit
def sevB (c : G.Cf) (l : Int) : Bool := decide ((G.cla c true).1 ≤ l) && decide (l < (G.cla c true).1 + (G.cla c true).2)
theorem sev_class {c : G.Cf} (h : G.chk c = 0) (h1 : 1 ≤ c.l) {n : Nat} (hn : (n : Int) = c.l) {i l : Nat} (hi : i < n) (hl : l < n) :
  (sevB c (i : Int) == sevB c (l : Int)) = decide ((clsR c l).1 ≤ i ∧ i < (clsR c l).1 + (clsR c l).2) := by
 unfold sevB clsR G.cla
 simp only [if_pos h, if_true]
 by_cases ca : c.ca = true
 ·simp only [ca, if_true, Bool.true_and]
  by_cases e2 : (l : Int) = c.l - 1
  ·rw [decide_eq_true e2]
   simp only [if_true]
   have a1 : (decide (c.l - 1 ≤ (l : Int)) && decide ((l : Int) < c.l - 1 + 1)) = true := by
    rw [decide_eq_true (by omega), decide_eq_true (by omega)]; rfl
   rw [a1]
   by_cases e3 : (i : Int) = c.l - 1
   ·rw [decide_eq_true (show c.l - 1 ≤ (i : Int) by omega), decide_eq_true (show (i : Int) < c.l - 1 + 1 by omega), decide_eq_true (by constructor <;> omega)]
    rfl
   ·rw [decide_eq_false (show ¬ c.l - 1 ≤ (i : Int) by omega), decide_eq_false (show ¬ ((c.l - 1).toNat ≤ i ∧ i < (c.l - 1).toNat + (1 : Int).toNat) by omega)]
    rfl
  ·rw [decide_eq_false e2]
   simp only [Bool.false_eq_true, if_false]
   rw [decide_eq_false (show ¬ c.l - 1 ≤ (l : Int) by omega)]
   by_cases e3 : (i : Int) = c.l - 1
   ·rw [decide_eq_true (show c.l - 1 ≤ (i : Int) by omega), decide_eq_true (show (i : Int) < c.l - 1 + 1 by omega), decide_eq_false (show ¬ ((0 : Int).toNat ≤ i ∧ i < (0 : Int).toNat + (c.l - 1).toNat) by omega)]
    rfl
   ·rw [decide_eq_false (show ¬ c.l - 1 ≤ (i : Int) by omega), decide_eq_true (show ((0 : Int).toNat ≤ i ∧ i < (0 : Int).toNat + (c.l - 1).toNat) by constructor <;> omega)]
    rfl
 ·have cf : c.ca = false := by simpa using ca
  simp only [cf, Bool.false_and, Bool.false_eq_true, if_false]
  rw [decide_eq_true (show ((0 : Int).toNat ≤ i ∧ i < (0 : Int).toNat + c.l.toNat) by constructor <;> omega)]
  rw [decide_eq_false (show ¬ (i : Int) < 0 + 0 by omega), decide_eq_false (show ¬ (l : Int) < 0 + 0 by omega), Bool.and_false, Bool.and_false]
  rfl
theorem cla_in {c : G.Cf} (h : G.chk c = 0) (h1 : 1 ≤ c.l) (h8 : c.l ≤ 8) : 0 ≤ (G.cla c true).1 ∧ (G.cla c true).1 ≤ 8 ∧ 0 ≤ (G.cla c true).2 ∧ (G.cla c true).2 ≤ 8 := by
 unfold G.cla
 rw [if_pos h]
 split <;> simp <;> omega
theorem lz_put {K : KS} {x : Nat} (h : K.ph = 2 → K.port = 0 → K.lane = 0) : (putK K x).1.ph = 2 → (putK K x).1.port = 0 → (putK K x).1.lane = 0 := by
 rw [(putK_sm K x).1, (putK_sm K x).2.1, (putK_sm K x).2.2]
 exact h
theorem lz_find {K : KS} {node P : Int} (h : K.ph = 2 → K.port = 0 → K.lane = 0) : (findK K node P).1.ph = 2 → (findK K node P).1.port = 0 → (findK K node P).1.lane = 0 := by
 unfold findK
 split
 ·exact h
 ·split
  ·split
   ·exact fun _ _ => rfl
   ·split
    ·intro h1
     exact absurd h1 (by simp)
    ·exact h
  ·exact h
theorem lz_give {K : KS} {k : Int} (hp : K.ph = 1 → 1 ≤ K.port) (h : K.ph = 2 → K.port = 0 → K.lane = 0) : (giveK K k).1.ph = 2 → (giveK K k).1.port = 0 → (giveK K k).1.lane = 0 := by
 unfold giveK
 split
 ·rename_i h1
  intro _ h2
  have := hp h1
  have h3 : K.port = 0 := h2
  omega
 ·exact h
theorem lz_take {K : KS} (h : K.ph = 2 → K.port = 0 → K.lane = 0) : (takeK K).1.ph = 2 → (takeK K).1.port = 0 → (takeK K).1.lane = 0 := by
 unfold takeK
 split
 ·split
  ·exact h
  ·rename_i x t _
   show (nextK K x t).ph = 2 → (nextK K x t).port = 0 → (nextK K x t).lane = 0
   unfold nextK
   split
   ·exact fun _ _ => rfl
   ·split
    ·exact fun _ _ => rfl
    ·exact h
 ·exact h
end Go.Proofs.YtmmegmonmilkcaaGreatDoor

namespace Go.Proofs.YtmmegmonmilkcaaGreatDoor
open Go.RowKit
theorem hasPort_any (b : Nat) (p : Int) (w : World) : Calls Tryz.prog 66 #[.pointer (some ⟨b, 0, none⟩), .int .i64 p] w fun e w' => e = .returned (.bool (decide (0 ≤ p ∧ p < 5))) ∧ Below w.heap.size w w' := by
 by_cases h0 : 0 ≤ p
 ·by_cases h1 : p < 5
  ·rw [decide_eq_true ⟨h0, h1⟩]
   go_enter Tryz.func66, Tryz.ntmps66
   go_wp2
   go_ret
   exact ⟨rfl, Below.refl _ _⟩
  ·rw [decide_eq_false (fun c => h1 c.2)]
   go_enter Tryz.func66, Tryz.ntmps66
   go_wp2
   go_ret
   exact ⟨rfl, Below.refl _ _⟩
 ·rw [decide_eq_false (fun c => h0 c.1)]
  go_enter Tryz.func66, Tryz.ntmps66
  go_wp2
  go_ret
  exact ⟨rfl, Below.refl _ _⟩
section
variable {w : World} {b : Nat} {c : G.Cf} {S : RS} {Y : Lay}
theorem has_any (h : RtAt w b c S Y) (_hn : S.n ≤ 8) (p l : Int) : Calls Tryz.prog 52 #[.pointer (some ⟨b, 0, none⟩), .int .i64 p, .int .i64 l] w fun e w' => e = .returned (.bool (inRt S p l)) ∧ Below w.heap.size w w' := by
 have HP := hasPort_any b p w
 by_cases hp : 0 ≤ p ∧ p < 5
 ·rw [decide_eq_true hp] at HP
  obtain ⟨P, rfl⟩ : ∃ P : Nat, p = (P : Int) := ⟨p.toNat, by omega⟩
  have hP : P < 5 := by omega
  have hP5 : (P : Int) < 5 := by omega
  have hP0 : (0 : Int) ≤ (P : Int) := by omega
  have c0 : Hid (∀ v, Below w.heap.size w v → v.cell? ⟨b, 10 + P * 4, none⟩ = some (.slice (some ⟨Y.lb P, 0, none⟩) S.n (Y.lc P))) := show _ from fun v hv => ((h.next hv).port hP).1
  by_cases h2 : 0 ≤ l
  ·by_cases h3 : l < (S.n : Int)
   ·have e : inRt S (P : Int) l = true := inRt_iff.2 ⟨hp.1, hp.2, h2, h3⟩
    rw [e]
    generalize S.n = n at *
    clear e h hp
    go_enter Tryz.func52, Tryz.ntmps52
    go_wp2_with (go_at_call 66; with_reducible refine HP.mono ?_; rintro e w1 ⟨rfl, b1⟩; have c1 := c0.out w1 b1; clear HP)
    go_ret
    exact ⟨rfl, b1⟩
   ·have e : inRt S (P : Int) l = false := by
     rw [Bool.eq_false_iff]
     exact fun c => h3 (inRt_iff.1 c).2.2.2
    rw [e]
    generalize S.n = n at *
    clear e h hp
    go_enter Tryz.func52, Tryz.ntmps52
    go_wp2_with (go_at_call 66; with_reducible refine HP.mono ?_; rintro e w1 ⟨rfl, b1⟩; have c1 := c0.out w1 b1; clear HP)
    go_ret
    exact ⟨by simp [h3], b1⟩
  ·have e : inRt S (P : Int) l = false := by
    rw [Bool.eq_false_iff]
    exact fun c => h2 (inRt_iff.1 c).2.2.1
   rw [e]
   clear e h hp c0
   go_enter Tryz.func52, Tryz.ntmps52
   go_wp2_with (go_at_call 66; with_reducible refine HP.mono ?_; rintro e w1 ⟨rfl, b1⟩)
   go_ret
   exact ⟨rfl, b1⟩
 ·rw [decide_eq_false hp] at HP
  have e : inRt S p l = false := by
   rw [Bool.eq_false_iff]
   exact fun c => hp ⟨(inRt_iff.1 c).1, (inRt_iff.1 c).2.1⟩
  rw [e]
  clear e h hp
  go_enter Tryz.func52, Tryz.ntmps52
  go_wp2_with (go_at_call 66; with_reducible refine HP.mono ?_; rintro e w1 ⟨rfl, b1⟩)
  go_ret
  exact ⟨rfl, b1⟩
theorem entry_any (h : RtAt w b c S Y) (hn : S.n ≤ 8) (p l : Int) : Calls Tryz.prog 46 #[.pointer (some ⟨b, 0, none⟩), .int .i64 p, .int .i64 l] w fun e w' => e = .returned (.pointer (if inRt S p l = true then some ⟨Y.kb (ixRt S p l), 0, none⟩ else none)) ∧ Below w.heap.size w w' := by
 have HC := has_any h hn p l
 by_cases hin : inRt S p l = true
 ·rw [if_pos hin]
  rw [hin] at HC
  obtain ⟨P, L, rfl, rfl, hP, hL, hix⟩ := in_nat hin
  rw [hix]
  have hP5 : (P : Int) < 5 := by omega
  have hP0 : (0 : Int) ≤ (P : Int) := by omega
  have hL0 : (0 : Int) ≤ (L : Int) := by omega
  have hLn : (L : Int) < (S.n : Int) := by omega
  have c0 : Hid (∀ v, Below w.heap.size w v → v.cell? ⟨b, 10 + P * 4, none⟩ = some (.slice (some ⟨Y.lb P, 0, none⟩) S.n (Y.lc P)) ∧ v.cell? ⟨Y.lb P, L, none⟩ = some (.pointer (some ⟨Y.kb (P * S.n + L), 0, none⟩))) := show _ from fun v hv => ⟨((h.next hv).port hP).1, ((h.next hv).at_.lr P hP).1.cell hL⟩
  generalize Y.kb (P * S.n + L) = kb at *
  generalize S.n = n at *
  clear h hin hix
  go_enter Tryz.func46, Tryz.ntmps46
  go_wp2_with (go_at_call 52; with_reducible refine HC.mono ?_; rintro e w1 ⟨rfl, b1⟩; obtain ⟨c1, c2⟩ := c0.out w1 b1; clear HC)
  go_ret
  exact ⟨rfl, b1⟩
 ·rw [if_neg hin]
  rw [show inRt S p l = false by simpa using hin] at HC
  clear h hin
  go_enter Tryz.func46, Tryz.ntmps46
  go_wp2_with (go_at_call 52; with_reducible refine HC.mono ?_; rintro e w1 ⟨rfl, b1⟩)
  go_ret
  exact ⟨rfl, b1⟩
end
end Go.Proofs.YtmmegmonmilkcaaGreatDoor

namespace Go.Proofs.YtmmegmonmilkcaaGreatDoor
open Go.RowKit
section
variable {w : World} {b : Nat} {c : G.Cf} {S : RS} {F : Nat → Prop}
theorem RtAt.kn {Y : Lay} (h : RtAt w b c S Y) {p l : Int} (hin : inRt S p l = true) : Kn w (Y.kb (ixRt S p l)) (S.ins.getD (ixRt S p l) zks) (Y.fk (ixRt S p l)) := h.at_.kn _ (ix_lt hin)
theorem router_len (h : Rt w b c S F) (p l : Int) : Calls Tryz.prog 35 #[.pointer (some ⟨b, 0, none⟩), .int .i64 p, .int .i64 l] w fun e w' => e = .returned (.int .i64 (if inRt S p l = true then ((S.ins.getD (ixRt S p l) zks).ws.length : Int) else 0)) ∧ Below w.heap.size w w' := by
 obtain ⟨ok, hc, hn, Y, h, rfl⟩ := h
 have EC := entry_any h ok.n8 p l
 by_cases hin : inRt S p l = true
 ·rw [if_pos hin]
  rw [if_pos hin] at EC
  have LC : Hid (∀ v, Below w.heap.size w v → Calls Tryz.prog 76 #[.pointer (some ⟨Y.kb (ixRt S p l), 0, none⟩)] v fun e w' => e = .returned (.int .i64 (((S.ins.getD (ixRt S p l) zks).ws.length : Int))) ∧ Below v.heap.size v w') := show _ from fun v hv => lane_len ((h.next hv).kn hin)
  generalize (((S.ins.getD (ixRt S p l) zks).ws.length : Int)) = X at *
  generalize Y.kb (ixRt S p l) = kb at *
  clear h hn hc ok hin
  go_enter Tryz.func35, Tryz.ntmps35
  go_wp2_with fail
  go_at_call 46
  with_reducible refine EC.mono ?_
  rintro e w1 ⟨rfl, b1⟩
  have L1 := LC.out w1 b1
  have B1 : Hid (Below w.heap.size w w1) := b1
  clear EC LC b1
  go_wp2_with fail
  go_at_call 76
  with_reducible refine L1.mono ?_
  rintro e w2 ⟨rfl, b2⟩
  have B2 : Hid (Below w.heap.size w w2) := B1.out.trans (b2.mono B1.out.size)
  clear L1 b2
  go_wp2
  go_ret
  exact ⟨rfl, B2.out⟩
 ·rw [if_neg hin]
  rw [if_neg hin] at EC
  clear h hn hc ok hin
  go_enter Tryz.func35, Tryz.ntmps35
  go_wp2_with fail
  go_at_call 46
  with_reducible refine EC.mono ?_
  rintro e w1 ⟨rfl, b1⟩
  have B1 : Hid (Below w.heap.size w w1) := b1
  clear EC b1
  go_wp2_with fail
  go_at_call 76
  with_reducible refine (knil_len w1).mono ?_
  rintro e w2 ⟨rfl, b2⟩
  have B2 : Hid (Below w.heap.size w w2) := B1.out.trans (b2.mono B1.out.size)
  clear b2
  go_wp2
  go_ret
  exact ⟨rfl, B2.out⟩
theorem router_room (h : Rt w b c S F) (p l : Int) : Calls Tryz.prog 36 #[.pointer (some ⟨b, 0, none⟩), .int .i64 p, .int .i64 l] w fun e w' => e = .returned (.int .i64 (if inRt S p l = true then ((S.ins.getD (ixRt S p l) zks).r : Int) - ((S.ins.getD (ixRt S p l) zks).ws.length : Int) else 0)) ∧ Below w.heap.size w w' := by
 obtain ⟨ok, hc, hn, Y, h, rfl⟩ := h
 have EC := entry_any h ok.n8 p l
 by_cases hin : inRt S p l = true
 ·rw [if_pos hin]
  rw [if_pos hin] at EC
  have LC : Hid (∀ v, Below w.heap.size w v → Calls Tryz.prog 77 #[.pointer (some ⟨Y.kb (ixRt S p l), 0, none⟩)] v fun e w' => e = .returned (.int .i64 (((S.ins.getD (ixRt S p l) zks).r : Int) - ((S.ins.getD (ixRt S p l) zks).ws.length : Int))) ∧ Below v.heap.size v w') := show _ from fun v hv => lane_room ((h.next hv).kn hin)
  generalize (((S.ins.getD (ixRt S p l) zks).r : Int) - ((S.ins.getD (ixRt S p l) zks).ws.length : Int)) = X at *
  generalize Y.kb (ixRt S p l) = kb at *
  clear h hn hc ok hin
  go_enter Tryz.func36, Tryz.ntmps36
  go_wp2_with fail
  go_at_call 46
  with_reducible refine EC.mono ?_
  rintro e w1 ⟨rfl, b1⟩
  have L1 := LC.out w1 b1
  have B1 : Hid (Below w.heap.size w w1) := b1
  clear EC LC b1
  go_wp2_with fail
  go_at_call 77
  with_reducible refine L1.mono ?_
  rintro e w2 ⟨rfl, b2⟩
  have B2 : Hid (Below w.heap.size w w2) := B1.out.trans (b2.mono B1.out.size)
  clear L1 b2
  go_wp2
  go_ret
  exact ⟨rfl, B2.out⟩
 ·rw [if_neg hin]
  rw [if_neg hin] at EC
  clear h hn hc ok hin
  go_enter Tryz.func36, Tryz.ntmps36
  go_wp2_with fail
  go_at_call 46
  with_reducible refine EC.mono ?_
  rintro e w1 ⟨rfl, b1⟩
  have B1 : Hid (Below w.heap.size w w1) := b1
  clear EC b1
  go_wp2_with fail
  go_at_call 77
  with_reducible refine (knil_room w1).mono ?_
  rintro e w2 ⟨rfl, b2⟩
  have B2 : Hid (Below w.heap.size w w2) := B1.out.trans (b2.mono B1.out.size)
  clear b2
  go_wp2
  go_ret
  exact ⟨rfl, B2.out⟩
theorem router_phase (h : Rt w b c S F) (p l : Int) : Calls Tryz.prog 28 #[.pointer (some ⟨b, 0, none⟩), .int .i64 p, .int .i64 l] w fun e w' => e = .returned (.int .i64 (if inRt S p l = true then (S.ins.getD (ixRt S p l) zks).ph else 0)) ∧ Below w.heap.size w w' := by
 obtain ⟨ok, hc, hn, Y, h, rfl⟩ := h
 have EC := entry_any h ok.n8 p l
 by_cases hin : inRt S p l = true
 ·rw [if_pos hin]
  rw [if_pos hin] at EC
  have LC : Hid (∀ v, Below w.heap.size w v → Calls Tryz.prog 59 #[.pointer (some ⟨Y.kb (ixRt S p l), 0, none⟩)] v fun e w' => e = .returned (.int .i64 ((S.ins.getD (ixRt S p l) zks).ph)) ∧ Below v.heap.size v w') := show _ from fun v hv => lane_phase ((h.next hv).kn hin)
  generalize ((S.ins.getD (ixRt S p l) zks).ph) = X at *
  generalize Y.kb (ixRt S p l) = kb at *
  clear h hn hc ok hin
  go_enter Tryz.func28, Tryz.ntmps28
  go_wp2_with fail
  go_at_call 46
  with_reducible refine EC.mono ?_
  rintro e w1 ⟨rfl, b1⟩
  have L1 := LC.out w1 b1
  have B1 : Hid (Below w.heap.size w w1) := b1
  clear EC LC b1
  go_wp2_with fail
  go_at_call 59
  with_reducible refine L1.mono ?_
  rintro e w2 ⟨rfl, b2⟩
  have B2 : Hid (Below w.heap.size w w2) := B1.out.trans (b2.mono B1.out.size)
  clear L1 b2
  go_wp2
  go_ret
  exact ⟨rfl, B2.out⟩
 ·rw [if_neg hin]
  rw [if_neg hin] at EC
  clear h hn hc ok hin
  go_enter Tryz.func28, Tryz.ntmps28
  go_wp2_with fail
  go_at_call 46
  with_reducible refine EC.mono ?_
  rintro e w1 ⟨rfl, b1⟩
  have B1 : Hid (Below w.heap.size w w1) := b1
  clear EC b1
  go_wp2_with fail
  go_at_call 59
  with_reducible refine (knil_phase w1).mono ?_
  rintro e w2 ⟨rfl, b2⟩
  have B2 : Hid (Below w.heap.size w w2) := B1.out.trans (b2.mono B1.out.size)
  clear b2
  go_wp2
  go_ret
  exact ⟨rfl, B2.out⟩
theorem router_put (h : Rt w b c S F) (p l : Int) (x : Nat) (hx : x < 18446744073709551616) : Calls Tryz.prog 18 (zq10 (some ⟨b, 0, none⟩) p l (x : Int)) w fun e w' => ∃ F', e = .returned (.int .i64 (putRt S p l x).2) ∧ Rt w' b c (putRt S p l x).1 F' ∧ Gr F w w' F' := by
 obtain ⟨ok, hc, hn, Y, h, rfl⟩ := h
 have EC := entry_any h ok.n8 p l
 have okp := ok.put p l hx
 by_cases hin : inRt S p l = true
 ·have e1 : putRt S p l x = ({ S with ins := S.ins.set (ixRt S p l) (putK (S.ins.getD (ixRt S p l) zks) x).1 }, (putK (S.ins.getD (ixRt S p l) zks) x).2) := by unfold putRt; rw [if_pos hin]
  rw [e1] at okp ⊢
  rw [if_pos hin] at EC
  have LC : Hid (∀ v, Below w.heap.size w v → Calls Tryz.prog 47 #[.pointer (some ⟨Y.kb (ixRt S p l), 0, none⟩), .int .u64 (x : Int)] v fun e w' => e = .returned (.int .i64 (putK (S.ins.getD (ixRt S p l) zks) x).2) ∧ ∃ F', Rt w' b c { S with ins := S.ins.set (ixRt S p l) (putK (S.ins.getD (ixRt S p l) zks) x).1 } F' ∧ Gr (fpr Y) v w' F') := show _ from fun v hv => by
   refine (lane_put ((h.next hv).kn hin) x hx).mono ?_
   rintro e w' ⟨F', rfl, k1, g1⟩
   obtain ⟨Y', h', g'⟩ := (h.next hv).lane ok.il (ix_lt hin) k1 g1 (lz_put (h.lz _ (ix_lt hin)))
   exact ⟨rfl, _, ⟨okp, hc, hn, Y', h', rfl⟩, g'⟩
  clear h hn hc ok hin e1 okp
  generalize (putK (S.ins.getD (ixRt S p l) zks) x).2 = X at *
  generalize ({ S with ins := S.ins.set (ixRt S p l) (putK (S.ins.getD (ixRt S p l) zks) x).1 } : RS) = S' at *
  generalize Y.kb (ixRt S p l) = kb at *
  go_enter Tryz.func18, Tryz.ntmps18
  go_wp2_with fail
  go_at_call 46
  with_reducible refine EC.mono ?_
  rintro e w1 ⟨rfl, b1⟩
  have L1 := LC.out w1 b1
  have B1 : Hid (Below w.heap.size w w1) := b1
  clear EC LC b1
  go_wp2_with fail
  go_at_call 47
  with_reducible refine L1.mono ?_
  rintro e w2 ⟨rfl, F', k2, g2⟩
  have K2 : Hid (Rt w2 b c S' F' ∧ Gr (fpr Y) w w2 F') := ⟨k2, g2.after B1.out⟩
  clear L1 k2 g2
  go_wp2
  go_ret
  exact ⟨F', rfl, K2.out.1, K2.out.2⟩
 ·have e1 : putRt S p l x = (S, 1) := by unfold putRt; rw [if_neg hin]
  rw [e1]
  rw [if_neg hin] at EC
  have HK : Hid (Rt w b c S (fpr Y)) := show Rt _ _ _ _ _ from ⟨ok, hc, hn, Y, h, rfl⟩
  clear h hn hc ok hin e1 okp
  go_enter Tryz.func18, Tryz.ntmps18
  go_wp2_with fail
  go_at_call 46
  with_reducible refine EC.mono ?_
  rintro e w1 ⟨rfl, b1⟩
  have B1 : Hid (Below w.heap.size w w1) := b1
  clear EC b1
  go_wp2_with fail
  go_at_call 47
  with_reducible refine (knil_put x w1).mono ?_
  rintro e w2 ⟨rfl, b2⟩
  have B2 : Hid (Below w.heap.size w w2) := B1.out.trans (b2.mono B1.out.size)
  clear b2
  go_wp2
  go_ret
  exact ⟨fpr Y, rfl, HK.out.next B2.out, Gr.of B2.out⟩
end
end Go.Proofs.YtmmegmonmilkcaaGreatDoor
