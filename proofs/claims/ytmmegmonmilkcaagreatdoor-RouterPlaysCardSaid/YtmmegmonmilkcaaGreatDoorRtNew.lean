/-
 The program's router: New. (Written by gen_rnew.py.)
-/
import Derived.Test.YtmmegmonmilkcaaGreatDoorRtPort
namespace Go.Proofs.YtmmegmonmilkcaaGreatDoor
open Go.RowKit
def q4 (x : Value × Value × Value × Value) : List Value := [x.1, x.2.1, x.2.2.1, x.2.2.2]
def rtz (c : G.Cf) (node : Int) (f : Nat → Value × Value × Value × Value) : Array Value := ((G.cfc c).toList ++ (.int .i64 node :: (q4 (f 0) ++ (q4 (f 1) ++ (q4 (f 2) ++ (q4 (f 3) ++ q4 (f 4))))))).toArray
theorem rtz_set (c : G.Cf) (node : Int) (f : Nat → Value × Value × Value × Value) {p : Nat} (hp : p < 5) (x0 x1 x2 x3 : Value) :
  ((((rtz c node f).setIfInBounds (10 + p * 4) x0).setIfInBounds (10 + p * 4 + 1) x1).setIfInBounds (10 + p * 4 + 2) x2).setIfInBounds (10 + p * 4 + 3) x3 = rtz c node (fun q => if q = p then (x0, x1, x2, x3) else f q) := by
 match p, hp with
 | 0, _ => rfl
 | 1, _ => rfl
 | 2, _ => rfl
 | 3, _ => rfl
 | 4, _ => rfl
theorem rtz_at (c : G.Cf) (node : Int) (f : Nat → Value × Value × Value × Value) {p : Nat} (hp : p < 5) : (rtz c node f)[10 + p * 4]? = some (f p).1 ∧ (rtz c node f)[10 + p * 4 + 1]? = some (f p).2.1 ∧ (rtz c node f)[10 + p * 4 + 2]? = some (f p).2.2.1 ∧ (rtz c node f)[10 + p * 4 + 3]? = some (f p).2.2.2 := by
 match p, hp with
 | 0, _ => exact ⟨rfl, rfl, rfl, rfl⟩
 | 1, _ => exact ⟨rfl, rfl, rfl, rfl⟩
 | 2, _ => exact ⟨rfl, rfl, rfl, rfl⟩
 | 3, _ => exact ⟨rfl, rfl, rfl, rfl⟩
 | 4, _ => exact ⟨rfl, rfl, rfl, rfl⟩
def pt4 (Y : Lay) (n p : Nat) : Value × Value × Value × Value := (.slice (some ⟨Y.lb p, 0, none⟩) n (Y.lc p), .slice (some ⟨Y.ob p, 0, none⟩) n n, .pointer (some ⟨Y.gb p, 0, none⟩), .pointer (some ⟨Y.mb p, 0, none⟩))
theorem rtz_all (c : G.Cf) (node : Int) (f : Nat → Value × Value × Value × Value) (Y : Lay) (n : Nat) (h : ∀ p, p < 5 → f p = pt4 Y n p) : rtz c node f = rtc c node Y n := by
 unfold rtz rtc
 rw [h 0 (by decide), h 1 (by decide), h 2 (by decide), h 3 (by decide), h 4 (by decide)]
 rfl
structure RNw (w v : World) (b : Nat) (c : G.Cf) (node : Int) (n d i : Nat) (f : Nat → Value × Value × Value × Value) (Y : Lay) : Prop where
 bl : Below w.heap.size w v
 wb : w.heap.size ≤ b
 blk : Bk v b (rtz c node f) 97
 fp : ∀ p, p < i → f p = pt4 Y n p
 tb : Y.tg b = 1
 pa : PtAt v n (fun _ => newK (d : Int)) (fun _ => -1) (fun _ => 0) (fun _ => 0) Y i
 nw : ∀ q, Y.tg q ≠ 0 → w.heap.size ≤ q
theorem RNw.next {w v u : World} {b : Nat} {c : G.Cf} {node : Int} {n d i : Nat} {f : Nat → Value × Value × Value × Value} {Y : Lay} (h : RNw w v b c node n d i f Y) (hb : Below v.heap.size v u) : RNw w u b c node n d i f Y :=
 ⟨h.bl.trans (hb.mono h.bl.size), h.wb, h.blk.next hb, h.fp, h.tb, h.pa.keep hb.size fun g hg => hb.block g (h.pa.lt g (by omega)), h.nw⟩
open Classical in
theorem RNw.more {w v u : World} {b : Nat} {c : G.Cf} {node : Int} {n d i : Nat} {f : Nat → Value × Value × Value × Value} {Y : Lay} {lb lc o g m : Nat} {kb : Nat → Nat} {fk : Nat → Nat → Prop} {tg : Nat → Nat} (h : RNw w v b c node n d i f Y) (hi : i < 5) (_hn : 1 ≤ n)
  (k : PtNew v u n d lb lc o g m kb fk tg) :
  ∃ Y', RNw w ((((u.setCell ⟨b, 10 + i * 4, none⟩ (.slice (some ⟨lb, 0, none⟩) n lc)).setCell ⟨b, 10 + i * 4 + 1, none⟩ (.slice (some ⟨o, 0, none⟩) n n)).setCell ⟨b, 10 + i * 4 + 2, none⟩ (.pointer (some ⟨g, 0, none⟩))).setCell ⟨b, 10 + i * 4 + 3, none⟩ (.pointer (some ⟨m, 0, none⟩))) b c node n d (i + 1)
   (fun q => if q = i then (.slice (some ⟨lb, 0, none⟩) n lc, .slice (some ⟨o, 0, none⟩) n n, .pointer (some ⟨g, 0, none⟩), .pointer (some ⟨m, 0, none⟩)) else f q) Y' := by
 have hb := h.blk.lt
 have fr : ∀ q, q ≠ b → ((((u.setCell ⟨b, 10 + i * 4, none⟩ (.slice (some ⟨lb, 0, none⟩) n lc)).setCell ⟨b, 10 + i * 4 + 1, none⟩ (.slice (some ⟨o, 0, none⟩) n n)).setCell ⟨b, 10 + i * 4 + 2, none⟩ (.pointer (some ⟨g, 0, none⟩))).setCell ⟨b, 10 + i * 4 + 3, none⟩ (.pointer (some ⟨m, 0, none⟩))).heap[q]? = u.heap[q]? := fun q hq => by
  rw [Below.heap_setCell _ ⟨b, 10 + i * 4 + 3, none⟩ _ q hq, Below.heap_setCell _ ⟨b, 10 + i * 4 + 2, none⟩ _ q hq, Below.heap_setCell _ ⟨b, 10 + i * 4 + 1, none⟩ _ q hq, Below.heap_setCell _ ⟨b, 10 + i * 4, none⟩ _ q hq]
 have hsz : ((((u.setCell ⟨b, 10 + i * 4, none⟩ (.slice (some ⟨lb, 0, none⟩) n lc)).setCell ⟨b, 10 + i * 4 + 1, none⟩ (.slice (some ⟨o, 0, none⟩) n n)).setCell ⟨b, 10 + i * 4 + 2, none⟩ (.pointer (some ⟨g, 0, none⟩))).setCell ⟨b, 10 + i * 4 + 3, none⟩ (.pointer (some ⟨m, 0, none⟩))).heap.size = u.heap.size := by simp
 -- what was there
 have old : ∀ q, Y.tg q ≠ 0 → tg q = 0 := fun q h0 => by
  by_cases e : tg q = 0
  ·exact e
  ·have h1 := (k.lt q e).1
   have h2 := h.pa.lt q h0
   omega
 have tzO : ∀ q, Y.tg q ≠ 0 → (if tg q = 0 then Y.tg q else if tg q = 4 then 2 + i else if tg q = 1 then 7 + i else if tg q = 2 then 12 + i else if tg q = 3 then 17 + i else 17 + i * n + tg q) = Y.tg q := fun q h0 => if_pos (old q h0)
 have keyO : ∀ q, 2 ≤ Y.tg q → ((((u.setCell ⟨b, 10 + i * 4, none⟩ (.slice (some ⟨lb, 0, none⟩) n lc)).setCell ⟨b, 10 + i * 4 + 1, none⟩ (.slice (some ⟨o, 0, none⟩) n n)).setCell ⟨b, 10 + i * 4 + 2, none⟩ (.pointer (some ⟨g, 0, none⟩))).setCell ⟨b, 10 + i * 4 + 3, none⟩ (.pointer (some ⟨m, 0, none⟩))).heap[q]? = v.heap[q]? := fun q h0 => by
  rw [fr q (fun e => by rw [e, h.tb] at h0; omega), k.bl.block q (h.pa.lt q (by omega))]
 have keyN : ∀ q, tg q ≠ 0 → ((((u.setCell ⟨b, 10 + i * 4, none⟩ (.slice (some ⟨lb, 0, none⟩) n lc)).setCell ⟨b, 10 + i * 4 + 1, none⟩ (.slice (some ⟨o, 0, none⟩) n n)).setCell ⟨b, 10 + i * 4 + 2, none⟩ (.pointer (some ⟨g, 0, none⟩))).setCell ⟨b, 10 + i * 4 + 3, none⟩ (.pointer (some ⟨m, 0, none⟩))).heap[q]? = u.heap[q]? := fun q h0 => fr q (fun e => by have := (k.lt q h0).1; omega)
 have hin : ∀ p l, p < i → l < n → p * n + l < i * n := fun p l hp hl => by
  have : (p + 1) * n ≤ i * n := Nat.mul_le_mul_right n (by omega)
  rw [Nat.add_mul, Nat.one_mul] at this
  omega
 refine ⟨⟨fun p => if p = i then lb else Y.lb p, fun p => if p = i then lc else Y.lc p, fun p => if p = i then o else Y.ob p, fun p => if p = i then g else Y.gb p, fun p => if p = i then m else Y.mb p,
  fun j => if i * n ≤ j then kb (j - i * n) else Y.kb j, fun j => if i * n ≤ j then fk (j - i * n) else Y.fk j,
  fun q => if tg q = 0 then Y.tg q else if tg q = 4 then 2 + i else if tg q = 1 then 7 + i else if tg q = 2 then 12 + i else if tg q = 3 then 17 + i else 17 + i * n + tg q⟩, ⟨?_, h.wb, ?_, ?_, (tzO b (by rw [h.tb]; decide)).trans h.tb, ⟨?_, ?_, ?_, ?_, ?_, ?_, ?_, ?_, ?_, ?_, ?_⟩, ?_⟩⟩
 ·have hk : Below w.heap.size w u := h.bl.trans (k.bl.mono h.bl.size)
  exact (((hk.setCell h.wb _).setCell h.wb _).setCell h.wb _).setCell h.wb _
 ·have h0 : Bk u b (rtz c node f) 97 := h.blk.next k.bl
  have := (((h0.set (10 + i * 4) (.slice (some ⟨lb, 0, none⟩) n lc)).set (10 + i * 4 + 1) (.slice (some ⟨o, 0, none⟩) n n)).set (10 + i * 4 + 2) (.pointer (some ⟨g, 0, none⟩))).set (10 + i * 4 + 3) (.pointer (some ⟨m, 0, none⟩))
  rw [rtz_set c node f hi] at this
  exact this
 ·intro p hp
  show (if p = i then _ else f p) = _
  by_cases e1 : p = i
  ·subst e1
   rw [if_pos rfl]
   unfold pt4
   simp only [if_true]
  ·rw [if_neg e1, h.fp p (by omega)]
   unfold pt4
   simp only [if_neg e1]
 ·intro p hp
  by_cases e1 : p = i
  ·subst e1
   simp only [if_true]
   refine ⟨?_, k.lr.2⟩
   have hl := k.lr.1.keep (w' := _) (keyN lb (by rw [k.tl]; decide))
   obtain ⟨cs, h1, h2⟩ := hl
   refine ⟨cs, h1, fun l hl => ?_⟩
   have e2 : (if p * n ≤ p * n + l then kb (p * n + l - p * n) else Y.kb (p * n + l)) = kb l := by rw [if_pos (by omega), Nat.add_sub_cancel_left]
   simp only [e2]
   exact h2 l hl
  ·simp only [if_neg e1]
   have hp' : p < i := by omega
   refine ⟨?_, (h.pa.lr p hp').2⟩
   obtain ⟨cs, h1, h2⟩ := (h.pa.lr p hp').1.keep (keyO _ (by rw [h.pa.tl p hp']; omega))
   refine ⟨cs, h1, fun l hl => ?_⟩
   have e2 : (if i * n ≤ p * n + l then kb (p * n + l - i * n) else Y.kb (p * n + l)) = Y.kb (p * n + l) := if_neg (by have := hin p l hp' hl; omega)
   simp only [e2]
   exact h2 l hl
 ·intro p hp
  by_cases e1 : p = i
  ·subst e1
   simp only [if_true]
   exact k.ow.keep (keyN o (by rw [k.tO]; decide))
  ·simp only [if_neg e1]
   have hp' : p < i := by omega
   exact (h.pa.ow p hp').keep (keyO _ (by rw [h.pa.tO p hp']; omega))
 ·intro p hp
  by_cases e1 : p = i
  ·subst e1
   simp only [if_true]
   exact Fb_keep k.gf (keyN g (by rw [k.tG]; decide))
  ·simp only [if_neg e1]
   have hp' : p < i := by omega
   exact Fb_keep (h.pa.gf p hp') (keyO _ (by rw [h.pa.tG p hp']; omega))
 ·intro p hp
  by_cases e1 : p = i
  ·subst e1
   simp only [if_true]
   exact Fb_keep k.mf (keyN m (by rw [k.tM]; decide))
  ·simp only [if_neg e1]
   have hp' : p < i := by omega
   exact Fb_keep (h.pa.mf p hp') (keyO _ (by rw [h.pa.tM p hp']; omega))
 ·intro j hj
  show Kn _ (if i * n ≤ j then kb (j - i * n) else Y.kb j) _ (if i * n ≤ j then fk (j - i * n) else Y.fk j)
  by_cases e1 : i * n ≤ j
  ·rw [if_pos e1, if_pos e1]
   have hl : j - i * n < n := by rw [Nat.add_mul, Nat.one_mul] at hj; omega
   exact Kn_keep (k.kn _ hl) fun q hq => keyN q (by rw [k.tk _ hl q hq]; omega)
  ·rw [if_neg e1, if_neg e1]
   have hj' : j < i * n := by omega
   exact Kn_keep (h.pa.kn j hj') fun q hq => keyO q (by rw [h.pa.tk j hj' q hq]; omega)
 ·intro p hp
  by_cases e1 : p = i
  ·subst e1
   simp only [if_true, k.tl]
   rfl
  ·simp only [if_neg e1]
   have hp' : p < i := by omega
   exact (tzO _ (by rw [h.pa.tl p hp']; omega)).trans (h.pa.tl p hp')
 ·intro p hp
  by_cases e1 : p = i
  ·subst e1
   simp only [if_true, k.tO]
   rfl
  ·simp only [if_neg e1]
   have hp' : p < i := by omega
   exact (tzO _ (by rw [h.pa.tO p hp']; omega)).trans (h.pa.tO p hp')
 ·intro p hp
  by_cases e1 : p = i
  ·subst e1
   simp only [if_true, k.tG]
   rfl
  ·simp only [if_neg e1]
   have hp' : p < i := by omega
   exact (tzO _ (by rw [h.pa.tG p hp']; omega)).trans (h.pa.tG p hp')
 ·intro p hp
  by_cases e1 : p = i
  ·subst e1
   simp only [if_true, k.tM]
   rfl
  ·simp only [if_neg e1]
   have hp' : p < i := by omega
   exact (tzO _ (by rw [h.pa.tM p hp']; omega)).trans (h.pa.tM p hp')
 ·intro j hj q hq
  replace hq : (if i * n ≤ j then fk (j - i * n) else Y.fk j) q := hq
  show (if tg q = 0 then Y.tg q else if tg q = 4 then 2 + i else if tg q = 1 then 7 + i else if tg q = 2 then 12 + i else if tg q = 3 then 17 + i else 17 + i * n + tg q) = 22 + j
  by_cases e1 : i * n ≤ j
  ·rw [if_pos e1] at hq
   have hl : j - i * n < n := by rw [Nat.add_mul, Nat.one_mul] at hj; omega
   have ht := k.tk _ hl q hq
   rw [if_neg (by omega), if_neg (by omega), if_neg (by omega), if_neg (by omega), if_neg (by omega)]
   omega
  ·rw [if_neg e1] at hq
   have hj' : j < i * n := by omega
   have ht := h.pa.tk j hj' q hq
   exact (tzO q (by rw [ht]; omega)).trans ht
 ·intro q hq
  replace hq : (if tg q = 0 then Y.tg q else if tg q = 4 then 2 + i else if tg q = 1 then 7 + i else if tg q = 2 then 12 + i else if tg q = 3 then 17 + i else 17 + i * n + tg q) ≠ 0 := hq
  rw [hsz]
  by_cases e1 : tg q = 0
  ·rw [if_pos e1] at hq
   exact Nat.lt_of_lt_of_le (h.pa.lt q hq) k.bl.size
  ·exact (k.lt q e1).2
 ·intro q hq
  replace hq : (if tg q = 0 then Y.tg q else if tg q = 4 then 2 + i else if tg q = 1 then 7 + i else if tg q = 2 then 12 + i else if tg q = 3 then 17 + i else 17 + i * n + tg q) ≠ 0 := hq
  by_cases e1 : tg q = 0
  ·rw [if_pos e1] at hq
   exact h.nw q hq
  ·have := (k.lt q e1).1
   have := h.bl.size
   omega
theorem rep_at {n k : Nat} {x d : Int} (h : k < n) : (List.replicate n x).getD k d = x := by
 rw [List.getD_eq_getElem?_getD, List.getElem?_replicate, if_pos h]; rfl
theorem RNw.rt {w v : World} {b : Nat} {c : G.Cf} {node : Int} {n d : Nat} {f : Nat → Value × Value × Value × Value} {Y : Lay} (h : RNw w v b c node n d 5 f Y) (hc : G.chk c = 0) (hn : (n : Int) = c.l) (h1 : 1 ≤ n) (h8 : n ≤ 8) : Rt v b c (newRt n d node) (fpr Y) := by
 refine ⟨ROk.new node h1 h8, hc, hn, Y, ⟨?_, h.tb, ⟨h.pa.lr, fun p hp => ?_, fun p hp => ?_, fun p hp => ?_, fun k hk => ?_, h.pa.tl, h.pa.tO, h.pa.tG, h.pa.tM, h.pa.tk, h.pa.lt⟩, fun k hk => ?_⟩, rfl⟩
 ·show Bk v b (rtc c node Y n) _
  rw [← rtz_all c node f Y n h.fp]
  exact h.blk
 ·refine (h.pa.ow p hp).ext fun l hl => ?_
  exact rep_at (ix_lt' hp hl)
 ·have e : (newRt n d node).gv.getD p 0 = 0 := rep_zero 5 p
  show FA.Fb v _ n ((newRt n d node).gv.getD p 0)
  rw [e]
  exact h.pa.gf p hp
 ·have e : (newRt n d node).mv.getD p 0 = 0 := rep_zero 5 p
  show FA.Fb v _ (5 * n) ((newRt n d node).mv.getD p 0)
  rw [e]
  exact h.pa.mf p hp
 ·have e : (newRt n d node).ins.getD k zks = newK (d : Int) := by
   show (List.replicate (5 * n) (newK (d : Int))).getD k zks = _
   rw [List.getD_eq_getElem?_getD, List.getElem?_replicate, if_pos (show k < 5 * n from hk)]; rfl
  show Kn v _ ((newRt n d node).ins.getD k zks) _
  rw [e]
  exact h.pa.kn k hk
 ·have e : (newRt n d node).ins.getD k zks = newK (d : Int) := by
   show (List.replicate (5 * n) (newK (d : Int))).getD k zks = _
   rw [List.getD_eq_getElem?_getD, List.getElem?_replicate, if_pos (show k < 5 * n from hk)]; rfl
  intro hp
  rw [e] at hp
  cases hp
theorem RNw.start (w v : World) (c : G.Cf) (node : Int) (n d : Nat) (h : Below w.heap.size w v) : RNw w (v.alloc (.cells (rtz c node fun _ => (.slice none 0 0, .slice none 0 0, .pointer none, .pointer none)) 97)) v.heap.size c node n d 0 (fun _ => (.slice none 0 0, .slice none 0 0, .pointer none, .pointer none)) ⟨fun _ => 0, fun _ => 0, fun _ => 0, fun _ => 0, fun _ => 0, fun _ => 0, fun _ _ => False, fun q => if q = v.heap.size then 1 else 0⟩ := by
 refine ⟨h.alloc h.size _, h.size, Bk.new _ _ _, fun p hp => by omega, if_pos rfl, ⟨fun p hp => by omega, fun p hp => by omega, fun p hp => by omega, fun p hp => by omega, fun k hk => by omega, fun p hp => by omega, fun p hp => by omega, fun p hp => by omega, fun p hp => by omega, fun k hk => by omega, fun q hq => ?_⟩, fun q hq => ?_⟩
 ·replace hq : (if q = v.heap.size then 1 else 0) ≠ 0 := hq
  by_cases e : q = v.heap.size
  ·rw [e]; simp
  ·rw [if_neg e] at hq; exact absurd rfl hq
 ·replace hq : (if q = v.heap.size then 1 else 0) ≠ 0 := hq
  by_cases e : q = v.heap.size
  ·rw [e]; exact h.size
  ·rw [if_neg e] at hq; exact absurd rfl hq
theorem ncfg {v : World} {A : Nat} {cw ch cl cd cr ci cb : Int} {we ca : Bool} (q : Bk v A (zq5 cw ch cl cd cr ci cb we ca) 23) : v.cell? ⟨A, 0, none⟩ = some (.int .i64 cw) ∧ v.cell? ⟨A, 1, none⟩ = some (.int .i64 ch) ∧ v.cell? ⟨A, 2, none⟩ = some (.int .i64 cl) ∧ v.cell? ⟨A, 3, none⟩ = some (.int .i64 cd) ∧ v.cell? ⟨A, 4, none⟩ = some (.int .i64 cr) ∧ v.cell? ⟨A, 5, none⟩ = some (.int .i64 ci) ∧ v.cell? ⟨A, 6, none⟩ = some (.int .i64 cb) ∧ v.cell? ⟨A, 7, none⟩ = some (.bool we) ∧ v.cell? ⟨A, 8, none⟩ = some (.bool ca) :=
 ⟨(q.cell 0).trans rfl, (q.cell 1).trans rfl, (q.cell 2).trans rfl, (q.cell 3).trans rfl, (q.cell 4).trans rfl, (q.cell 5).trans rfl, (q.cell 6).trans rfl, (q.cell 7).trans rfl, (q.cell 8).trans rfl⟩
set_option maxRecDepth 100000 in
set_option maxHeartbeats 8000000 in
theorem router_new (c : G.Cf) (hc : G.chk c = 0) (node : Int) (hn : G.isN c node = true) (w : World) : Calls Tryz.prog 12 #[G.cfv c, .int .i64 node] w fun e w' => ∃ p F, e = .returned (.pointer (some ⟨p, 0, none⟩)) ∧ Rt w' p c (newRt c.l.toNat c.d.toNat node) F ∧ (∀ g, F g → w.heap.size ≤ g) ∧ Below w.heap.size w w' := by
 have ft := G.fits_of hc
 have IC := fun v => G.is_any c node v
 rw [hn] at IC
 obtain ⟨n, hnn⟩ : ∃ n : Nat, (n : Int) = c.l := ⟨c.l.toNat, by have := ft.l1; omega⟩
 obtain ⟨d, hdd⟩ : ∃ d : Nat, (d : Int) = c.d := ⟨c.d.toNat, by have := ft.d1; omega⟩
 have h1 : 1 ≤ n := by have := ft.l1; omega
 have h8 : n ≤ 8 := by have := ft.l2; omega
 have NPC := fun v => newport_any c n d hnn hdd h1 h8 v
 have FIN : Hid (∀ v b f Y, RNw w v b c node n d 5 f Y → ∃ F, Rt v b c (newRt c.l.toNat c.d.toNat node) F ∧ (∀ g, F g → w.heap.size ≤ g) ∧ Below w.heap.size w v) := show _ from fun v b f Y h => by
  have e1 : c.l.toNat = n := by omega
  have e2 : c.d.toNat = d := by omega
  rw [e1, e2]
  exact ⟨_, h.rt hc hnn h1 h8, fun g hg => h.nw g hg, h.bl⟩
 have MORE : Hid (∀ (v u : World) (b i : Nat) f Y (lb lc o g m : Nat) (kb : Nat → Nat) (fk : Nat → Nat → Prop) (tg : Nat → Nat), RNw w v b c node n d i f Y → i < 5 → PtNew v u n d lb lc o g m kb fk tg → ∃ Y', RNw w ((((u.setCell ⟨b, 10 + i * 4, none⟩ (.slice (some ⟨lb, 0, none⟩) n lc)).setCell ⟨b, 10 + i * 4 + 1, none⟩ (.slice (some ⟨o, 0, none⟩) n n)).setCell ⟨b, 10 + i * 4 + 2, none⟩ (.pointer (some ⟨g, 0, none⟩))).setCell ⟨b, 10 + i * 4 + 3, none⟩ (.pointer (some ⟨m, 0, none⟩))) b c node n d (i + 1) (fun q => if q = i then (.slice (some ⟨lb, 0, none⟩) n lc, .slice (some ⟨o, 0, none⟩) n n, .pointer (some ⟨g, 0, none⟩), .pointer (some ⟨m, 0, none⟩)) else f q) Y') := show _ from fun v u b i f Y lb lc o g m kb fk tg h hi k => h.more hi h1 k
 have START : Hid (∀ v, Below w.heap.size w v → ∃ Y, RNw w (v.alloc (.cells (rtz c node fun _ => (.slice none 0 0, .slice none 0 0, .pointer none, .pointer none)) 97)) v.heap.size c node n d 0 (fun _ => (.slice none 0 0, .slice none 0 0, .pointer none, .pointer none)) Y) := show _ from fun v hv => ⟨_, RNw.start w v c node n d hv⟩
 clear ft hnn hdd h1 h8 hn hc
 have HN2 : Hid (∀ v b i f Y, RNw w v b c node n d i f Y → i < 5 → (v.cell? ⟨b, 10 + i * 4, none⟩ = some (f i).1 ∧ v.cell? ⟨b, 10 + i * 4 + 1, none⟩ = some (f i).2.1 ∧ v.cell? ⟨b, 10 + i * 4 + 2, none⟩ = some (f i).2.2.1 ∧ v.cell? ⟨b, 10 + i * 4 + 3, none⟩ = some (f i).2.2.2) ∧ v.frozen? ⟨b, 10 + i * 4, none⟩ = false ∧ v.frozen? ⟨b, 10 + i * 4 + 1, none⟩ = false ∧ v.frozen? ⟨b, 10 + i * 4 + 2, none⟩ = false ∧ v.frozen? ⟨b, 10 + i * 4 + 3, none⟩ = false) := show _ from fun v b i f Y h hi => by
  have := rtz_at c node f hi
  exact ⟨⟨(h.blk.cell _).trans this.1, (h.blk.cell _).trans this.2.1, (h.blk.cell _).trans this.2.2.1, (h.blk.cell _).trans this.2.2.2⟩, h.blk.free _, h.blk.free _, h.blk.free _, h.blk.free _⟩
 have HZ : Hid (rtz c node (fun _ => (.slice none 0 0, .slice none 0 0, .pointer none, .pointer none)) = (zq12 c.w c.h c.l c.d c.r c.i c.b c.we c.ca node none 0 0 none 0 0 none none none 0 0 none 0 0 none none none 0 0 none 0 0 none none none 0 0 none 0 0 none none none 0 0 none 0 0 none none)) := show _ = _ from rfl
 obtain ⟨cw, ch, cl, cd, cr, ci, cb, we, ca⟩ := c
 simp only [G.cfv, G.cfc] at *
 have N0 : Hid (Bk (w.alloc (.cells (zq5 cw ch cl cd cr ci cb we ca) 23)) w.heap.size (zq5 cw ch cl cd cr ci cb we ca) 23) := Bk.new _ _ _
 have B0 : Hid (Below w.heap.size w (w.alloc (.cells (zq5 cw ch cl cd cr ci cb we ca) 23))) := (Below.refl _ _).alloc (Nat.le_refl _) _
 have HA0 : Hid (w.heap.size < (w.alloc (.cells (zq5 cw ch cl cd cr ci cb we ca) 23)).heap.size) := show _ < _ from by simp
 go_enter Tryz.func12, Tryz.ntmps12
 go_upto_region 1 with fail
 generalize w.alloc (.cells (zq5 cw ch cl cd cr ci cb we ca) 23) = v at *
 have HB : Hid (Below w.heap.size w v) := B0.out
 obtain ⟨A, hA⟩ : ∃ x, w.heap.size = x := ⟨_, rfl⟩
 have HWA : Hid (w.heap.size = A) := hA
 rw [hA] at N0 ⊢
 clear hA
 obtain ⟨k0, k1, k2, k3, k4, k5, k6, k7, k8⟩ := ncfg N0.out
 go_upto_region 3 with (go_at_call 39; with_reducible refine (IC _).mono ?_; rintro e w1 ⟨rfl, b1⟩)
 have N1 : Hid (Bk w1 A (zq5 cw ch cl cd cr ci cb we ca) 23) := N0.out.next b1
 have B1 : Hid (Below w.heap.size w w1) := HB.out.trans (b1.mono HB.out.size)
 clear IC b1 N0 k0 k1 k2 k3 k4 k5 k6 k7 k8 HB B0
 obtain ⟨k0, k1, k2, k3, k4, k5, k6, k7, k8⟩ := ncfg N1.out
 go_upto_region 4 with fail
 obtain ⟨Y0, RN0⟩ := START.out w1 B1.out
 rw [HZ.out] at RN0
 have N2 : Hid (Bk (w1.alloc (.cells (zq12 cw ch cl cd cr ci cb we ca node none 0 0 none 0 0 none none none 0 0 none 0 0 none none none 0 0 none 0 0 none none none 0 0 none 0 0 none none none 0 0 none 0 0 none none) 97)) A (zq5 cw ch cl cd cr ci cb we ca) 23) := N1.out.alloc _
 have HAb : Hid (A < w1.heap.size) := N1.out.lt
 clear N1 k0 k1 k2 k3 k4 k5 k6 k7 k8 START HZ B1
 generalize w1.alloc (.cells (zq12 cw ch cl cd cr ci cb we ca node none 0 0 none 0 0 none none none 0 0 none 0 0 none none none 0 0 none 0 0 none none none 0 0 none 0 0 none none none 0 0 none 0 0 none none) 97) = v1 at *
 generalize w1.heap.size = b at *
 have HR0 : Hid (RNw w v1 b ⟨cw, ch, cl, cd, cr, ci, cb, we, ca⟩ node n d 0 (fun _ => (.slice none 0 0, .slice none 0 0, .pointer none, .pointer none)) Y0) := RN0
 clear RN0
 go_wp2_with fail
 go_loopw [15] (fun x wr => ∃ (i : Nat) (f : Nat → Value × Value × Value × Value) (Y : Lay), i ≤ 5 ∧ x = .int .i64 i ∧ RNw w wr b ⟨cw, ch, cl, cd, cr, ci, cb, we, ca⟩ node n d i f Y ∧ Bk wr A (zq5 cw ch cl cd cr ci cb we ca) 23) (fun x _ => 5 - (RowKit.intOf x).toNat)
 case atStart => exact ⟨0, _, Y0, Nat.zero_le _, rfl, HR0.out, N2.out⟩
 case round =>
  clear HR0 N2
  obtain ⟨i, f, Y, hi, rfl, rn, bk⟩ := hrel
  have RN : Hid (RNw w wr b ⟨cw, ch, cl, cd, cr, ci, cb, we, ca⟩ node n d i f Y) := rn
  have NA : Hid (Bk wr A (zq5 cw ch cl cd cr ci cb we ca) 23) := bk
  clear rn bk
  by_cases hlt : i < 5
  case neg =>
   have e1 : ¬ (i : Int) < 5 := by omega
   obtain rfl : i = 5 := by omega
   obtain ⟨F, r1, r2, r3⟩ := FIN.out wr b f Y RN.out
   have HF : Hid (Rt wr b ⟨cw, ch, cl, cd, cr, ci, cb, we, ca⟩ (newRt cl.toNat cd.toNat node) F ∧ (∀ g, F g → w.heap.size ≤ g) ∧ Below w.heap.size w wr) := show _ ∧ _ ∧ _ from ⟨r1, r2, r3⟩
   clear r1 r2 r3
   go_wp2
   go_ret
   exact ⟨b, rfl, F, HF.out.1, HF.out.2.1, HF.out.2.2⟩
  have e1 : (i : Int) < 5 := by omega
  have e2 : (0 : Int) ≤ (i : Int) := by omega
  have D0 : Below wr.heap.size wr wr.drew := (Below.refl _ _).drew
  have R1 := RN.out.next D0
  have T1 := ncfg (NA.out.next D0)
  go_upto_region 7 with fail
  go_wp2_with fail
  refine wp_region_G (fun V => V.cell? ⟨A, 0, none⟩ = some (.int .i64 cw) ∧ V.cell? ⟨A, 1, none⟩ = some (.int .i64 ch) ∧ V.cell? ⟨A, 2, none⟩ = some (.int .i64 cl) ∧ V.cell? ⟨A, 3, none⟩ = some (.int .i64 cd) ∧ V.cell? ⟨A, 4, none⟩ = some (.int .i64 cr) ∧ V.cell? ⟨A, 5, none⟩ = some (.int .i64 ci) ∧ V.cell? ⟨A, 6, none⟩ = some (.int .i64 cb) ∧ V.cell? ⟨A, 7, none⟩ = some (.bool we) ∧ V.cell? ⟨A, 8, none⟩ = some (.bool ca)) 7 (by kernel_rfl) ?_
  refine wpAnyG_tk [7] (some 18) (i := 0) (v := ?v0) rfl rfl (by kernel_rfl) (fun _ _ _ h => h) (Or.inl ⟨by rfl, ?y0⟩) T1 ?r0
  case y0 => (intro V hSV; obtain ⟨s0, s1, s2, s3, s4, s5, s6, s7, s8⟩ := hSV; go_simp; try with_reducible rfl)
  try simp only [Act.put, sqa, sqz, sqs]
  refine wpAnyG_tk [7] (some 19) (i := 1) (v := ?v1) rfl rfl (by kernel_rfl) (fun _ _ _ h => h) (Or.inl ⟨by rfl, ?y1⟩) T1 ?r1
  case y1 => (intro V hSV; obtain ⟨s0, s1, s2, s3, s4, s5, s6, s7, s8⟩ := hSV; go_simp; try with_reducible rfl)
  try simp only [Act.put, sqa, sqz, sqs]
  refine wpAnyG_tk [7] (some 20) (i := 2) (v := ?v2) rfl rfl (by kernel_rfl) (fun _ _ _ h => h) (Or.inl ⟨by rfl, ?y2⟩) T1 ?r2
  case y2 => (intro V hSV; obtain ⟨s0, s1, s2, s3, s4, s5, s6, s7, s8⟩ := hSV; go_simp; try with_reducible rfl)
  try simp only [Act.put, sqa, sqz, sqs]
  refine wpAnyG_tk [5, 6, 7] (some 22) (i := 4) (v := ?v4) rfl rfl (by kernel_rfl) (fun _ _ _ h => h) (Or.inl ⟨by rfl, ?y4⟩) T1 ?r4
  case y4 => (intro V hSV; obtain ⟨s0, s1, s2, s3, s4, s5, s6, s7, s8⟩ := hSV; go_simp; try with_reducible rfl)
  try simp only [Act.put, sqa, sqz, sqs]
  refine wpAnyG_tk [6, 7] (some 23) (i := 5) (v := ?v5) rfl rfl (by kernel_rfl) (fun _ _ _ h => h) (Or.inl ⟨by rfl, ?y5⟩) T1 ?r5
  case y5 => (intro V hSV; obtain ⟨s0, s1, s2, s3, s4, s5, s6, s7, s8⟩ := hSV; go_simp; try with_reducible rfl)
  try simp only [Act.put, sqa, sqz, sqs]
  refine wpAnyG_one (i := 3) (by kernel_rfl) rfl (fun K hK => ?_)
  go_simp
  with_reducible refine (NPC _).mono ?_
  rintro e w5 ⟨lb, lc, o, g, m, kb, fk, tg, rfl, pn⟩
  have N5 := (NA.out.next D0).next pn.bl
  have R5 := R1.next pn.bl
  have T5 := ncfg N5
  refine hK.out _ _ (Or.inr T5) ?_
  clear hK K
  try simp only [Act.put, sqa, sqz, sqs]
  refine wpAnyG_tk [7] (some 24) (i := 6) (v := ?vz6) rfl rfl (by kernel_rfl) (fun _ _ _ h => h) (Or.inl ⟨by rfl, ?yz6⟩) T5 ?rz6
  case yz6 => (intro V hSV; obtain ⟨s0, s1, s2, s3, s4, s5, s6, s7, s8⟩ := hSV; go_simp; try with_reducible rfl)
  try simp only [Act.put, sqa, sqz, sqs]
  obtain ⟨⟨y0, y1, y2, y3⟩, f0, f1, f2, f3⟩ := HN2.out w5 b i f Y R5 hlt
  obtain ⟨Y', RM⟩ := MORE.out _ w5 b i f Y lb lc o g m kb fk tg R1 hlt pn
  have RM9 : Hid (RNw w _ b _ node n d (i + 1) _ Y') := RM
  have N9 : Hid (Bk ((((w5.setCell ⟨b, 10 + i * 4, none⟩ (.slice (some ⟨lb, 0, none⟩) n lc)).setCell ⟨b, 10 + i * 4 + 1, none⟩ (.slice (some ⟨o, 0, none⟩) n n)).setCell ⟨b, 10 + i * 4 + 2, none⟩ (.pointer (some ⟨g, 0, none⟩))).setCell ⟨b, 10 + i * 4 + 3, none⟩ (.pointer (some ⟨m, 0, none⟩))) A (zq5 cw ch cl cd cr ci cb we ca) 23) := (((N5.far (Nat.ne_of_lt HAb.out)).far (Nat.ne_of_lt HAb.out)).far (Nat.ne_of_lt HAb.out)).far (Nat.ne_of_lt HAb.out)
  clear RM pn N5 R5 R1 T1 T5 D0 RN NA
  generalize (f i).1 = g0 at *
  generalize (f i).2.1 = g1 at *
  generalize (f i).2.2.1 = g2 at *
  generalize (f i).2.2.2 = g3 at *
  refine wpAnyG_one (i := 7) (by kernel_rfl) rfl (fun K hK => ?_)
  go_simp
  refine hK.out _ _ (Or.inl (by kernel_rfl)) ?_
  clear hK K
  try simp only [Act.put, sqa, sqz, sqs]
  refine wpAnyG_done (by kernel_rfl) ?_ _
  clear y0 y1 y2 y3 f0 f1 f2 f3
  generalize (((w5.setCell ⟨b, 10 + i * 4, none⟩ (.slice (some ⟨lb, 0, none⟩) n lc)).setCell ⟨b, 10 + i * 4 + 1, none⟩ (.slice (some ⟨o, 0, none⟩) n n)).setCell ⟨b, 10 + i * 4 + 2, none⟩ (.pointer (some ⟨g, 0, none⟩))).setCell ⟨b, 10 + i * 4 + 3, none⟩ (.pointer (some ⟨m, 0, none⟩)) = w8 at *
  go_wp2
  go_roundw
  case rel => exact ⟨i + 1, _, Y', by omega, by go_num, RM9.out, N9.out⟩
  case measure => simp [RowKit.intOf]; omega
end Go.Proofs.YtmmegmonmilkcaaGreatDoor
