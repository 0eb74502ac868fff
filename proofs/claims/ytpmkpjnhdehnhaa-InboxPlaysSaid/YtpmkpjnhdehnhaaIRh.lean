/-
  The document's inbox by value: a packet comes. (Written by gen_irh.py.)
-/
import Derived.Test.YtpmkpjnhdehnhaaIRg
namespace Go.Proofs.Ytpmkpjnhdehnhaa
open Go.RowKit

theorem grown_set (w : World) (k j : Nat) (x : Value) : w.grownBy (w.setCell ⟨k, j, none⟩ x) (some k) := ⟨rfl, rfl, rfl, by simp, fun i _ hne => Below.heap_setCell w ⟨k, j, none⟩ x i fun e => hne (by rw [e])⟩
theorem grown_alloc (w : World) (o : Obj) : w.grownBy (w.alloc o) none := ⟨rfl, rfl, rfl, by simp, fun i hi _ => Below.heap_alloc w o i hi⟩
theorem set_four {v : World} {b : Nat} {x0 x1 x2 x3 : Value} {t : TypeId} (h : Bk v b #[x0, x1, x2, x3] t) (y0 y1 y2 y3 : Value) : Bk ((((v.setCell ⟨b, 0, none⟩ y0).setCell ⟨b, 1, none⟩ y1).setCell ⟨b, 2, none⟩ y2).setCell ⟨b, 3, none⟩ y3) b #[y0, y1, y2, y3] t := (((h.set 0 y0).set 1 y1).set 2 y2).set 3 y3
theorem below_four {w v : World} {n b : Nat} (h : Below n w v) (hb : n ≤ b) (y0 y1 y2 y3 : Value) : Below n w ((((v.setCell ⟨b, 0, none⟩ y0).setCell ⟨b, 1, none⟩ y1).setCell ⟨b, 2, none⟩ y2).setCell ⟨b, 3, none⟩ y3) := (((h.setCell hb _).setCell hb _).setCell hb _).setCell hb _
theorem grown_two {a b c : World} {r : Option Nat} (h : a.grownBy b r) (k : b.grownBy c r) : a.grownBy c r := h.andThen k fun _ hj => Or.inr hj
theorem grown_four (v : World) (b : Nat) (y0 y1 y2 y3 : Value) : v.grownBy ((((v.setCell ⟨b, 0, none⟩ y0).setCell ⟨b, 1, none⟩ y1).setCell ⟨b, 2, none⟩ y2).setCell ⟨b, 3, none⟩ y3) (some b) := grown_two (grown_two (grown_two (grown_set v b 0 y0) (grown_set _ b 1 y1)) (grown_set _ b 2 y2)) (grown_set _ b 3 y3)
theorem has_take {W : List Pk} {k : Nat} {r p : Pk} (hk : W[k]? = some r) (h : has (W.take k) p = false) (hr : ¬ (r.s = p.s ∧ r.q = p.q)) : has (W.take (k + 1)) p = false := has_not.2 fun x hx => by
  rcases mem_take_succ hk hx with hx | rfl
  · exact has_not.1 h x hx
  · exact hr
theorem has_hit {W : List Pk} {k : Nat} {r p : Pk} (hk : W[k]? = some r) (hs : r.s = p.s) (hq : r.q = p.q) : has W p = true := has_iff.2 ⟨r, List.mem_of_getElem? hk, hs, hq⟩
theorem come_has {S : IS} (ok : IOk S) {p : Pk} (h : has S.W p = true) : comeE S p = 13 ∧ comeS S p = S := by
  obtain ⟨r, hr, h1, h2⟩ := has_iff.1 h
  have hi : inR p := by
    have := ok.rng r hr
    unfold inR at this ⊢
    rw [← h1, ← h2]
    exact this
  unfold comeE comeS
  rw [if_pos hi, if_pos hi, h]
  exact ⟨rfl, rfl⟩
theorem come_out {S : IS} {p : Pk} (h : ¬ inR p) : comeE S p = 1 ∧ comeS S p = S := by
  unfold comeE comeS
  rw [if_neg h, if_neg h]
  exact ⟨rfl, rfl⟩
theorem come_in {S : IS} {p : Pk} (h : inR p) (hh : has S.W p = false) : comeE S p = 0 ∧ comeS S p = { S with W := S.W ++ [p] } := by
  unfold comeE comeS
  rw [if_pos h, if_pos h, hh]
  exact ⟨rfl, rfl⟩
set_option maxRecDepth 100000 in
set_option maxHeartbeats 4000000 in
theorem rcome_any {w : World} {S : IS} {N : List (Int × Int)} {sl sw sn : Value} (h : RB w S N sl sw sn) (ok : IOk S) (hW : S.W.length ≤ 1000) (p : Pk) :
    Calls Try.prog 16 #[bvv S.n sl sw sn, pkv p] w fun e w' => ∃ sw', e = .returned (.tuple #[bvv (comeS S p).n sl sw' sn, .int .i64 (comeE S p)]) ∧ RB w' (comeS S p) N sl sw' sn ∧ Below w.heap.size w w' ∧ ∀ g, sw'.ownBlock = some g → sw.ownBlock = some g ∨ w.heap.size ≤ g := by
  obtain ⟨i0, ki, hz0, hz1, hz2⟩ := info_parts Try.info33'
  have HRB : Hid (RB w S N sl sw sn) := h
  have OK : Hid (IOk S) := ok
  obtain ⟨h1, h2, h3, hnx⟩ := h
  obtain ⟨⟨a1, b1, rfl, l1, m1, z1, r1⟩, q1⟩ := h1
  obtain ⟨⟨a2, b2, rfl, l2, m2, z2, r2⟩, q2⟩ := h2
  obtain ⟨⟨a3, b3, rfl, l3, m3, z3, r3⟩, q3⟩ := h3
  have RW : Hid (Rd w a2 (pkcs S.W)) := r2
  have Z2 : Hid (a2 = none → S.W.length = 0 ∧ b2 = 0) := show _ from fun e => ⟨by have := z2 e; omega, z2 e⟩
  obtain ⟨n0, hn0⟩ : ∃ n0 : Int, (S.n : Int) = n0 := ⟨_, rfl⟩
  have HN0 : Hid ((S.n : Int) = n0) := hn0
  rw [hn0]
  obtain ⟨nl, hnl⟩ : ∃ nl, S.L.length = nl := ⟨_, rfl⟩
  have HNL : Hid (S.L.length = nl) := hnl
  obtain ⟨nw, hnw⟩ : ∃ nw, S.W.length = nw := ⟨_, rfl⟩
  have HNW : Hid (S.W.length = nw) := hnw
  obtain ⟨nn, hnn⟩ : ∃ nn, N.length = nn := ⟨_, rfl⟩
  have HNN : Hid (N.length = nn) := hnn
  rw [hnl] at HRB ⊢
  rw [hnw] at HRB hW l2 Z2 ⊢
  rw [hnn] at HRB ⊢
  clear l1 m1 z1 r1 q1 m2 z2 r2 q2 l3 m3 z3 r3 q3 hnx ok hn0 hnl hnw hnn
  have D0 : Hid (Bk (((w.alloc (.cells #[.int .i64 n0, .slice a1 nl b1, .slice a2 nw b2, .slice a3 nn b3] 29)).alloc (.cells #[.int .i64 p.s, .int .i64 p.d, .int .i64 p.q, .string p.x] 33)).alloc (.cells #[.int .i64 0, .slice none 0 0, .slice none 0 0, .slice none 0 0] 29)) w.heap.size #[.int .i64 n0, .slice a1 nl b1, .slice a2 nw b2, .slice a3 nn b3] 29) := ((Bk.new w _ _).alloc _).alloc _
  have D1 : Hid (Bk (((w.alloc (.cells #[.int .i64 n0, .slice a1 nl b1, .slice a2 nw b2, .slice a3 nn b3] 29)).alloc (.cells #[.int .i64 p.s, .int .i64 p.d, .int .i64 p.q, .string p.x] 33)).alloc (.cells #[.int .i64 0, .slice none 0 0, .slice none 0 0, .slice none 0 0] 29)) (w.heap.size + 1) #[.int .i64 p.s, .int .i64 p.d, .int .i64 p.q, .string p.x] 33) := by
    have := Bk.new (w.alloc (.cells #[.int .i64 n0, .slice a1 nl b1, .slice a2 nw b2, .slice a3 nn b3] 29)) #[.int .i64 p.s, .int .i64 p.d, .int .i64 p.q, .string p.x] 33
    rw [show (w.alloc (.cells #[.int .i64 n0, .slice a1 nl b1, .slice a2 nw b2, .slice a3 nn b3] 29)).heap.size = w.heap.size + 1 by simp] at this
    exact this.alloc _
  have D2 : Hid (Bk (((w.alloc (.cells #[.int .i64 n0, .slice a1 nl b1, .slice a2 nw b2, .slice a3 nn b3] 29)).alloc (.cells #[.int .i64 p.s, .int .i64 p.d, .int .i64 p.q, .string p.x] 33)).alloc (.cells #[.int .i64 0, .slice none 0 0, .slice none 0 0, .slice none 0 0] 29)) (w.heap.size + 1 + 1) #[.int .i64 0, .slice none 0 0, .slice none 0 0, .slice none 0 0] 29) := by
    have := Bk.new ((w.alloc (.cells #[.int .i64 n0, .slice a1 nl b1, .slice a2 nw b2, .slice a3 nn b3] 29)).alloc (.cells #[.int .i64 p.s, .int .i64 p.d, .int .i64 p.q, .string p.x] 33)) #[.int .i64 0, .slice none 0 0, .slice none 0 0, .slice none 0 0] 29
    rwa [show ((w.alloc (.cells #[.int .i64 n0, .slice a1 nl b1, .slice a2 nw b2, .slice a3 nn b3] 29)).alloc (.cells #[.int .i64 p.s, .int .i64 p.d, .int .i64 p.q, .string p.x] 33)).heap.size = w.heap.size + 1 + 1 by simp] at this
  have HB : Hid (Below w.heap.size w (((w.alloc (.cells #[.int .i64 n0, .slice a1 nl b1, .slice a2 nw b2, .slice a3 nn b3] 29)).alloc (.cells #[.int .i64 p.s, .int .i64 p.d, .int .i64 p.q, .string p.x] 33)).alloc (.cells #[.int .i64 0, .slice none 0 0, .slice none 0 0, .slice none 0 0] 29))) := (((Below.refl _ _).alloc (Nat.le_refl _) _).alloc (by simp) _).alloc (by simp; omega) _
  obtain ⟨ps, pd, pq, px⟩ := p
  simp only [bvv, pkv, pkc] at *
  go_enter Try.func16, Try.ntmps16
  go_wp2_with fail
  generalize ((w.alloc (.cells #[.int .i64 n0, .slice a1 nl b1, .slice a2 nw b2, .slice a3 nn b3] 29)).alloc (.cells #[.int .i64 ps, .int .i64 pd, .int .i64 pq, .string px] 33)).alloc (.cells #[.int .i64 0, .slice none 0 0, .slice none 0 0, .slice none 0 0] 29) = w3 at *
  obtain ⟨d, hd⟩ : ∃ d, w.heap.size = d := ⟨_, rfl⟩
  rw [hd] at D0 D1 D2 HB ⊢
  have HD : Hid (w.heap.size = d) := hd
  clear hd
  go_loopw [6] (fun i wr => ∃ k : Nat, k ≤ nw ∧ i = .int .i64 (k : Int) ∧ has (S.W.take k) ⟨ps, pd, pq, px⟩ = false ∧ Below d w wr ∧ Bk wr d #[.int .i64 n0, .slice a1 nl b1, .slice a2 nw b2, .slice a3 nn b3] 29 ∧ Bk wr (d + 1) #[.int .i64 ps, .int .i64 pd, .int .i64 pq, .string px] 33 ∧ Bk wr (d + 1 + 1) #[.int .i64 0, .slice none 0 0, .slice none 0 0, .slice none 0 0] 29) (fun i _ => nw - (intOf i).toNat)
  case atStart => exact ⟨0, Nat.zero_le _, rfl, rfl, HB.out, D0.out, D1.out, D2.out⟩
  case round =>
    clear D0 D1 D2 HB
    obtain ⟨k, hk, rfl, hI, hB, hD0, hD1, hD2⟩ := hrel
    have HB : Hid (Below w.heap.size w wr) := by rw [HD.out]; exact hB
    have D0 : Hid (Bk wr d #[.int .i64 n0, .slice a1 nl b1, .slice a2 nw b2, .slice a3 nn b3] 29) := hD0
    have D1 : Hid (Bk wr (d + 1) #[.int .i64 ps, .int .i64 pd, .int .i64 pq, .string px] 33) := hD1
    have D2 : Hid (Bk wr (d + 1 + 1) #[.int .i64 0, .slice none 0 0, .slice none 0 0, .slice none 0 0] 29) := hD2
    have HI : Hid (has (S.W.take k) ⟨ps, pd, pq, px⟩ = false) := hI
    have y2 := hD0.cell 2
    simp only [List.getElem?_toArray, List.getElem?_cons_zero, List.getElem?_cons_succ] at y2
    clear hI hB hD0 hD1 hD2
    by_cases hlt : k < nw
    · have t1 : (k : Int) < (nw : Int) := by omega
      obtain ⟨x, hx⟩ : ∃ x, S.W[k]? = some x := ⟨_, List.getElem?_eq_getElem (by rw [HNW.out]; exact hlt)⟩
      obtain ⟨g, o, ha, _, _⟩ := rd_pk (RW.out.below HB.out) hx
      subst ha
      have HX : Hid (S.W[k]? = some x) := hx
      have k2 : ∀ q : Gw wr, q.v.cell? ⟨d, 2, none⟩ = some (.slice (some ⟨g, o, none⟩) nw b2) := fun q => Gw.cell q D0.out.lt (D0.out.cell 2)
      have p0 : ∀ q : Gw wr, q.v.cell? ⟨d + 1, 0, none⟩ = some (.int .i64 ps) := fun q => Gw.cell q D1.out.lt (D1.out.cell 0)
      have p2 : ∀ q : Gw wr, q.v.cell? ⟨d + 1, 2, none⟩ = some (.int .i64 pq) := fun q => Gw.cell q D1.out.lt (D1.out.cell 2)
      have c0 : ∀ q : Gw wr, q.v.cell? ⟨g, o + k * 4, none⟩ = some (.int .i64 x.s) := fun q => by
        obtain ⟨g', o', e, _, c, _⟩ := rd_pk (RW.out.below (HB.out.trans (q.le.mono HB.out.size))) HX.out
        cases e
        exact c
      have c2 : ∀ q : Gw wr, q.v.cell? ⟨g, o + k * 4 + 2, none⟩ = some (.int .i64 x.q) := fun q => by
        obtain ⟨g', o', e, _, _, _, c, _⟩ := rd_pk (RW.out.below (HB.out.trans (q.le.mono HB.out.size))) HX.out
        cases e
        exact c
      clear hx
      obtain ⟨xs, xd, xq, xx⟩ := x
      simp only at c0 c2
      have key : (xs = ps ∧ xq = pq ∧ Hid (has S.W ⟨ps, pd, pq, px⟩ = true)) ∨ (((xs = ps ∧ (xq == pq) = false) ∨ (xs == ps) = false) ∧ Hid (has (S.W.take (k + 1)) ⟨ps, pd, pq, px⟩ = false)) := by
        by_cases e1 : xs = ps
        · by_cases e2 : xq = pq
          · exact Or.inl ⟨e1, e2, has_hit HX.out e1 e2⟩
          · exact Or.inr ⟨Or.inl ⟨e1, beq_eq_false_iff_ne.2 e2⟩, has_take HX.out HI.out fun c => e2 c.2⟩
        · exact Or.inr ⟨Or.inr (beq_eq_false_iff_ne.2 e1), has_take HX.out HI.out fun c => e1 c.1⟩
      rcases key with ⟨rfl, rfl, hh⟩ | ⟨⟨rfl, e2⟩ | e1, hh⟩
      · go_upto_region 4 with fail
        refine region_gw (by kernel_rfl) (by kernel_rfl) ?_
        repeat (first
          | go_big_quiet_skip
          | quiet_step (fail))
        refine wpQuiet_nil ?_
        intro u hw'
        obtain ⟨⟨u', hb⟩, e⟩ := hw'
        obtain rfl : u = u' := e
        have D0' := D0.out.next hb
        have D2' := D2.out.next hb
        have HB' : Hid (Below w.heap.size w u) := HB.out.trans (hb.mono HB.out.size)
        obtain ⟨ce, cs⟩ := come_has OK.out hh.out
        have CE : Hid (comeE S ⟨xs, pd, xq, px⟩ = 13 ∧ comeS S ⟨xs, pd, xq, px⟩ = S) := ⟨ce, cs⟩
        have y0 := D0'.cell 0
        have y1 := D0'.cell 1
        have y2 := D0'.cell 2
        have y3 := D0'.cell 3
        have v0 := D2'.cell 0
        have v1 := D2'.cell 1
        have v2 := D2'.cell 2
        have v3 := D2'.cell 3
        have f0 := D2'.free 0
        have f1 := D2'.free 1
        have f2 := D2'.free 2
        have f3 := D2'.free 3
        simp only [List.getElem?_toArray, List.getElem?_cons_zero, List.getElem?_cons_succ] at y0 y1 y2 y3 v0 v1 v2 v3
        have DR : Hid (Bk ((((u.setCell ⟨d + 1 + 1, 0, none⟩ (.int .i64 n0)).setCell ⟨d + 1 + 1, 1, none⟩ (.slice a1 nl b1)).setCell ⟨d + 1 + 1, 2, none⟩ (.slice (some ⟨g, o, none⟩) nw b2)).setCell ⟨d + 1 + 1, 3, none⟩ (.slice a3 nn b3)) (d + 1 + 1) #[.int .i64 n0, .slice a1 nl b1, .slice (some ⟨g, o, none⟩) nw b2, .slice a3 nn b3] 29) := set_four D2' _ _ _ _
        have BR : Hid (Below w.heap.size w ((((u.setCell ⟨d + 1 + 1, 0, none⟩ (.int .i64 n0)).setCell ⟨d + 1 + 1, 1, none⟩ (.slice a1 nl b1)).setCell ⟨d + 1 + 1, 2, none⟩ (.slice (some ⟨g, o, none⟩) nw b2)).setCell ⟨d + 1 + 1, 3, none⟩ (.slice a3 nn b3))) := below_four HB'.out (by have := HD.out; omega) _ _ _ _
        have GR : Hid (u.grownBy ((((u.setCell ⟨d + 1 + 1, 0, none⟩ (.int .i64 n0)).setCell ⟨d + 1 + 1, 1, none⟩ (.slice a1 nl b1)).setCell ⟨d + 1 + 1, 2, none⟩ (.slice (some ⟨g, o, none⟩) nw b2)).setCell ⟨d + 1 + 1, 3, none⟩ (.slice a3 nn b3)) (some (d + 1 + 1))) := grown_four _ _ _ _ _ _
        clear k2 p0 p2 c0 c2 D0 D1 D2 HB hb D0' D2' ce cs HB'
        go_wp2_with fail
        generalize ((((u.setCell ⟨d + 1 + 1, 0, none⟩ (.int .i64 n0)).setCell ⟨d + 1 + 1, 1, none⟩ (.slice a1 nl b1)).setCell ⟨d + 1 + 1, 2, none⟩ (.slice (some ⟨g, o, none⟩) nw b2)).setCell ⟨d + 1 + 1, 3, none⟩ (.slice a3 nn b3)) = v9 at *
        have Y0 := DR.out.cell 0
        have Y1 := DR.out.cell 1
        have Y2 := DR.out.cell 2
        have Y3 := DR.out.cell 3
        simp only [List.getElem?_toArray, List.getElem?_cons_zero, List.getElem?_cons_succ] at Y0 Y1 Y2 Y3
        refine bodyPost_ret (v := .tuple #[.agg #[.int .i64 n0, .slice a1 nl b1, .slice (some ⟨g, o, none⟩) nw b2, .slice a3 nn b3], .int .i64 13]) (by simp [results, Try.results16, go_sem, Y0, Y1, Y2, Y3]; try rfl) rfl ?_
        refine ⟨_, by rw [CE.out.1, CE.out.2, HN0.out], by rw [CE.out.2]; exact HRB.out.next BR.out, BR.out, fun g' hg' => Or.inl hg'⟩
      · go_upto_region 4 with fail
        refine region_gw (by kernel_rfl) (by kernel_rfl) ?_
        repeat (first
          | go_big_quiet_skip
          | quiet_step (fail))
        refine wpQuiet_nil ?_
        intro u hw'
        obtain ⟨⟨u', hb⟩, e⟩ := hw'
        obtain rfl : u = u' := e
        have R2 : Hid (Below d w u ∧ Bk u d #[.int .i64 n0, .slice a1 nl b1, .slice (some ⟨g, o, none⟩) nw b2, .slice a3 nn b3] 29 ∧ Bk u (d + 1) #[.int .i64 xs, .int .i64 pd, .int .i64 pq, .string px] 33 ∧ Bk u (d + 1 + 1) #[.int .i64 0, .slice none 0 0, .slice none 0 0, .slice none 0 0] 29) := ⟨HD.out ▸ HB.out.trans (hb.mono HB.out.size), D0.out.next hb, D1.out.next hb, D2.out.next hb⟩
        clear k2 p0 p2 c0 c2 D0 D1 D2 HB hb
        go_wp2_with fail
        go_roundw
        case rel => exact ⟨k + 1, by omega, by go_num, hh.out, R2.out⟩
        case measure => simp [intOf]; omega
      · go_upto_region 4 with fail
        refine region_gw (by kernel_rfl) (by kernel_rfl) ?_
        repeat (first
          | go_big_quiet_skip
          | quiet_step (fail))
        refine wpQuiet_nil ?_
        intro u hw'
        obtain ⟨⟨u', hb⟩, e⟩ := hw'
        obtain rfl : u = u' := e
        have R2 : Hid (Below d w u ∧ Bk u d #[.int .i64 n0, .slice a1 nl b1, .slice (some ⟨g, o, none⟩) nw b2, .slice a3 nn b3] 29 ∧ Bk u (d + 1) #[.int .i64 ps, .int .i64 pd, .int .i64 pq, .string px] 33 ∧ Bk u (d + 1 + 1) #[.int .i64 0, .slice none 0 0, .slice none 0 0, .slice none 0 0] 29) := ⟨HD.out ▸ HB.out.trans (hb.mono HB.out.size), D0.out.next hb, D1.out.next hb, D2.out.next hb⟩
        clear k2 p0 p2 c0 c2 D0 D1 D2 HB hb
        go_wp2_with fail
        go_roundw
        case rel => exact ⟨k + 1, by omega, by go_num, hh.out, R2.out⟩
        case measure => simp [intOf]; omega
    · have hno : has S.W ⟨ps, pd, pq, px⟩ = false := by
        have := HI.out
        rwa [List.take_of_length_le (by rw [HNW.out]; omega)] at this
      have HNO : Hid (has S.W ⟨ps, pd, pq, px⟩ = false) := hno
      have t1 : ¬ ((k : Int) < (nw : Int)) := by omega
      have p0 := D1.out.cell 0
      have p1 := D1.out.cell 1
      have p2 := D1.out.cell 2
      have p3 := D1.out.cell 3
      simp only [List.getElem?_toArray, List.getElem?_cons_zero, List.getElem?_cons_succ] at p0 p1 p2 p3
      have key : (¬ inR ⟨ps, pd, pq, px⟩ ∧ (ps < 0 ∨ (0 ≤ ps ∧ 4095 < ps) ∨ (0 ≤ ps ∧ ps ≤ 4095 ∧ pq < 0) ∨ (0 ≤ ps ∧ ps ≤ 4095 ∧ 0 ≤ pq ∧ 65535 < pq))) ∨ (0 ≤ ps ∧ ps ≤ 4095 ∧ 0 ≤ pq ∧ pq ≤ 65535 ∧ inR ⟨ps, pd, pq, px⟩) := by
        unfold inR
        simp only
        omega
      clear hno HI hlt
      rcases key with ⟨hi, h1 | ⟨h1, h2⟩ | ⟨h1, h2, h3⟩ | ⟨h1, h2, h3, h4⟩⟩ | ⟨h1, h2, h3, h4, hi⟩
      · obtain ⟨ce, cs⟩ := come_out hi
        have CE : Hid (comeE S ⟨ps, pd, pq, px⟩ = 1 ∧ comeS S ⟨ps, pd, pq, px⟩ = S) := ⟨ce, cs⟩
        have y0 := D0.out.cell 0
        have y1 := D0.out.cell 1
        have y2 := D0.out.cell 2
        have y3 := D0.out.cell 3
        have v0 := D2.out.cell 0
        have v1 := D2.out.cell 1
        have v2 := D2.out.cell 2
        have v3 := D2.out.cell 3
        have f0 := D2.out.free 0
        have f1 := D2.out.free 1
        have f2 := D2.out.free 2
        have f3 := D2.out.free 3
        simp only [List.getElem?_toArray, List.getElem?_cons_zero, List.getElem?_cons_succ] at y0 y1 y2 y3 v0 v1 v2 v3
        have DR : Hid (Bk ((((wr.setCell ⟨d + 1 + 1, 0, none⟩ (.int .i64 n0)).setCell ⟨d + 1 + 1, 1, none⟩ (.slice a1 nl b1)).setCell ⟨d + 1 + 1, 2, none⟩ (.slice a2 nw b2)).setCell ⟨d + 1 + 1, 3, none⟩ (.slice a3 nn b3)) (d + 1 + 1) #[.int .i64 n0, .slice a1 nl b1, .slice a2 nw b2, .slice a3 nn b3] 29) := set_four D2.out _ _ _ _
        have BR : Hid (Below w.heap.size w ((((wr.setCell ⟨d + 1 + 1, 0, none⟩ (.int .i64 n0)).setCell ⟨d + 1 + 1, 1, none⟩ (.slice a1 nl b1)).setCell ⟨d + 1 + 1, 2, none⟩ (.slice a2 nw b2)).setCell ⟨d + 1 + 1, 3, none⟩ (.slice a3 nn b3))) := below_four HB.out (by have := HD.out; omega) _ _ _ _
        have GR : Hid (wr.grownBy ((((wr.setCell ⟨d + 1 + 1, 0, none⟩ (.int .i64 n0)).setCell ⟨d + 1 + 1, 1, none⟩ (.slice a1 nl b1)).setCell ⟨d + 1 + 1, 2, none⟩ (.slice a2 nw b2)).setCell ⟨d + 1 + 1, 3, none⟩ (.slice a3 nn b3)) (some (d + 1 + 1))) := grown_four _ _ _ _ _ _
        clear D0 D1 D2 HB ce cs hi HNO
        go_wp2_with fail
        generalize ((((wr.setCell ⟨d + 1 + 1, 0, none⟩ (.int .i64 n0)).setCell ⟨d + 1 + 1, 1, none⟩ (.slice a1 nl b1)).setCell ⟨d + 1 + 1, 2, none⟩ (.slice a2 nw b2)).setCell ⟨d + 1 + 1, 3, none⟩ (.slice a3 nn b3)) = v9 at *
        have Y0 := DR.out.cell 0
        have Y1 := DR.out.cell 1
        have Y2 := DR.out.cell 2
        have Y3 := DR.out.cell 3
        simp only [List.getElem?_toArray, List.getElem?_cons_zero, List.getElem?_cons_succ] at Y0 Y1 Y2 Y3
        refine bodyPost_ret (v := .tuple #[.agg #[.int .i64 n0, .slice a1 nl b1, .slice a2 nw b2, .slice a3 nn b3], .int .i64 1]) (by simp [results, Try.results16, go_sem, Y0, Y1, Y2, Y3]; try rfl) rfl ?_
        refine ⟨_, by rw [CE.out.1, CE.out.2, HN0.out], by rw [CE.out.2]; exact HRB.out.next BR.out, BR.out, fun g' hg' => Or.inl hg'⟩
      · obtain ⟨ce, cs⟩ := come_out hi
        have CE : Hid (comeE S ⟨ps, pd, pq, px⟩ = 1 ∧ comeS S ⟨ps, pd, pq, px⟩ = S) := ⟨ce, cs⟩
        have y0 := D0.out.cell 0
        have y1 := D0.out.cell 1
        have y2 := D0.out.cell 2
        have y3 := D0.out.cell 3
        have v0 := D2.out.cell 0
        have v1 := D2.out.cell 1
        have v2 := D2.out.cell 2
        have v3 := D2.out.cell 3
        have f0 := D2.out.free 0
        have f1 := D2.out.free 1
        have f2 := D2.out.free 2
        have f3 := D2.out.free 3
        simp only [List.getElem?_toArray, List.getElem?_cons_zero, List.getElem?_cons_succ] at y0 y1 y2 y3 v0 v1 v2 v3
        have DR : Hid (Bk ((((wr.setCell ⟨d + 1 + 1, 0, none⟩ (.int .i64 n0)).setCell ⟨d + 1 + 1, 1, none⟩ (.slice a1 nl b1)).setCell ⟨d + 1 + 1, 2, none⟩ (.slice a2 nw b2)).setCell ⟨d + 1 + 1, 3, none⟩ (.slice a3 nn b3)) (d + 1 + 1) #[.int .i64 n0, .slice a1 nl b1, .slice a2 nw b2, .slice a3 nn b3] 29) := set_four D2.out _ _ _ _
        have BR : Hid (Below w.heap.size w ((((wr.setCell ⟨d + 1 + 1, 0, none⟩ (.int .i64 n0)).setCell ⟨d + 1 + 1, 1, none⟩ (.slice a1 nl b1)).setCell ⟨d + 1 + 1, 2, none⟩ (.slice a2 nw b2)).setCell ⟨d + 1 + 1, 3, none⟩ (.slice a3 nn b3))) := below_four HB.out (by have := HD.out; omega) _ _ _ _
        have GR : Hid (wr.grownBy ((((wr.setCell ⟨d + 1 + 1, 0, none⟩ (.int .i64 n0)).setCell ⟨d + 1 + 1, 1, none⟩ (.slice a1 nl b1)).setCell ⟨d + 1 + 1, 2, none⟩ (.slice a2 nw b2)).setCell ⟨d + 1 + 1, 3, none⟩ (.slice a3 nn b3)) (some (d + 1 + 1))) := grown_four _ _ _ _ _ _
        clear D0 D1 D2 HB ce cs hi HNO
        go_wp2_with fail
        generalize ((((wr.setCell ⟨d + 1 + 1, 0, none⟩ (.int .i64 n0)).setCell ⟨d + 1 + 1, 1, none⟩ (.slice a1 nl b1)).setCell ⟨d + 1 + 1, 2, none⟩ (.slice a2 nw b2)).setCell ⟨d + 1 + 1, 3, none⟩ (.slice a3 nn b3)) = v9 at *
        have Y0 := DR.out.cell 0
        have Y1 := DR.out.cell 1
        have Y2 := DR.out.cell 2
        have Y3 := DR.out.cell 3
        simp only [List.getElem?_toArray, List.getElem?_cons_zero, List.getElem?_cons_succ] at Y0 Y1 Y2 Y3
        refine bodyPost_ret (v := .tuple #[.agg #[.int .i64 n0, .slice a1 nl b1, .slice a2 nw b2, .slice a3 nn b3], .int .i64 1]) (by simp [results, Try.results16, go_sem, Y0, Y1, Y2, Y3]; try rfl) rfl ?_
        refine ⟨_, by rw [CE.out.1, CE.out.2, HN0.out], by rw [CE.out.2]; exact HRB.out.next BR.out, BR.out, fun g' hg' => Or.inl hg'⟩
      · obtain ⟨ce, cs⟩ := come_out hi
        have CE : Hid (comeE S ⟨ps, pd, pq, px⟩ = 1 ∧ comeS S ⟨ps, pd, pq, px⟩ = S) := ⟨ce, cs⟩
        have y0 := D0.out.cell 0
        have y1 := D0.out.cell 1
        have y2 := D0.out.cell 2
        have y3 := D0.out.cell 3
        have v0 := D2.out.cell 0
        have v1 := D2.out.cell 1
        have v2 := D2.out.cell 2
        have v3 := D2.out.cell 3
        have f0 := D2.out.free 0
        have f1 := D2.out.free 1
        have f2 := D2.out.free 2
        have f3 := D2.out.free 3
        simp only [List.getElem?_toArray, List.getElem?_cons_zero, List.getElem?_cons_succ] at y0 y1 y2 y3 v0 v1 v2 v3
        have DR : Hid (Bk ((((wr.setCell ⟨d + 1 + 1, 0, none⟩ (.int .i64 n0)).setCell ⟨d + 1 + 1, 1, none⟩ (.slice a1 nl b1)).setCell ⟨d + 1 + 1, 2, none⟩ (.slice a2 nw b2)).setCell ⟨d + 1 + 1, 3, none⟩ (.slice a3 nn b3)) (d + 1 + 1) #[.int .i64 n0, .slice a1 nl b1, .slice a2 nw b2, .slice a3 nn b3] 29) := set_four D2.out _ _ _ _
        have BR : Hid (Below w.heap.size w ((((wr.setCell ⟨d + 1 + 1, 0, none⟩ (.int .i64 n0)).setCell ⟨d + 1 + 1, 1, none⟩ (.slice a1 nl b1)).setCell ⟨d + 1 + 1, 2, none⟩ (.slice a2 nw b2)).setCell ⟨d + 1 + 1, 3, none⟩ (.slice a3 nn b3))) := below_four HB.out (by have := HD.out; omega) _ _ _ _
        have GR : Hid (wr.grownBy ((((wr.setCell ⟨d + 1 + 1, 0, none⟩ (.int .i64 n0)).setCell ⟨d + 1 + 1, 1, none⟩ (.slice a1 nl b1)).setCell ⟨d + 1 + 1, 2, none⟩ (.slice a2 nw b2)).setCell ⟨d + 1 + 1, 3, none⟩ (.slice a3 nn b3)) (some (d + 1 + 1))) := grown_four _ _ _ _ _ _
        clear D0 D1 D2 HB ce cs hi HNO
        go_wp2_with fail
        generalize ((((wr.setCell ⟨d + 1 + 1, 0, none⟩ (.int .i64 n0)).setCell ⟨d + 1 + 1, 1, none⟩ (.slice a1 nl b1)).setCell ⟨d + 1 + 1, 2, none⟩ (.slice a2 nw b2)).setCell ⟨d + 1 + 1, 3, none⟩ (.slice a3 nn b3)) = v9 at *
        have Y0 := DR.out.cell 0
        have Y1 := DR.out.cell 1
        have Y2 := DR.out.cell 2
        have Y3 := DR.out.cell 3
        simp only [List.getElem?_toArray, List.getElem?_cons_zero, List.getElem?_cons_succ] at Y0 Y1 Y2 Y3
        refine bodyPost_ret (v := .tuple #[.agg #[.int .i64 n0, .slice a1 nl b1, .slice a2 nw b2, .slice a3 nn b3], .int .i64 1]) (by simp [results, Try.results16, go_sem, Y0, Y1, Y2, Y3]; try rfl) rfl ?_
        refine ⟨_, by rw [CE.out.1, CE.out.2, HN0.out], by rw [CE.out.2]; exact HRB.out.next BR.out, BR.out, fun g' hg' => Or.inl hg'⟩
      · obtain ⟨ce, cs⟩ := come_out hi
        have CE : Hid (comeE S ⟨ps, pd, pq, px⟩ = 1 ∧ comeS S ⟨ps, pd, pq, px⟩ = S) := ⟨ce, cs⟩
        have y0 := D0.out.cell 0
        have y1 := D0.out.cell 1
        have y2 := D0.out.cell 2
        have y3 := D0.out.cell 3
        have v0 := D2.out.cell 0
        have v1 := D2.out.cell 1
        have v2 := D2.out.cell 2
        have v3 := D2.out.cell 3
        have f0 := D2.out.free 0
        have f1 := D2.out.free 1
        have f2 := D2.out.free 2
        have f3 := D2.out.free 3
        simp only [List.getElem?_toArray, List.getElem?_cons_zero, List.getElem?_cons_succ] at y0 y1 y2 y3 v0 v1 v2 v3
        have DR : Hid (Bk ((((wr.setCell ⟨d + 1 + 1, 0, none⟩ (.int .i64 n0)).setCell ⟨d + 1 + 1, 1, none⟩ (.slice a1 nl b1)).setCell ⟨d + 1 + 1, 2, none⟩ (.slice a2 nw b2)).setCell ⟨d + 1 + 1, 3, none⟩ (.slice a3 nn b3)) (d + 1 + 1) #[.int .i64 n0, .slice a1 nl b1, .slice a2 nw b2, .slice a3 nn b3] 29) := set_four D2.out _ _ _ _
        have BR : Hid (Below w.heap.size w ((((wr.setCell ⟨d + 1 + 1, 0, none⟩ (.int .i64 n0)).setCell ⟨d + 1 + 1, 1, none⟩ (.slice a1 nl b1)).setCell ⟨d + 1 + 1, 2, none⟩ (.slice a2 nw b2)).setCell ⟨d + 1 + 1, 3, none⟩ (.slice a3 nn b3))) := below_four HB.out (by have := HD.out; omega) _ _ _ _
        have GR : Hid (wr.grownBy ((((wr.setCell ⟨d + 1 + 1, 0, none⟩ (.int .i64 n0)).setCell ⟨d + 1 + 1, 1, none⟩ (.slice a1 nl b1)).setCell ⟨d + 1 + 1, 2, none⟩ (.slice a2 nw b2)).setCell ⟨d + 1 + 1, 3, none⟩ (.slice a3 nn b3)) (some (d + 1 + 1))) := grown_four _ _ _ _ _ _
        clear D0 D1 D2 HB ce cs hi HNO
        go_wp2_with fail
        generalize ((((wr.setCell ⟨d + 1 + 1, 0, none⟩ (.int .i64 n0)).setCell ⟨d + 1 + 1, 1, none⟩ (.slice a1 nl b1)).setCell ⟨d + 1 + 1, 2, none⟩ (.slice a2 nw b2)).setCell ⟨d + 1 + 1, 3, none⟩ (.slice a3 nn b3)) = v9 at *
        have Y0 := DR.out.cell 0
        have Y1 := DR.out.cell 1
        have Y2 := DR.out.cell 2
        have Y3 := DR.out.cell 3
        simp only [List.getElem?_toArray, List.getElem?_cons_zero, List.getElem?_cons_succ] at Y0 Y1 Y2 Y3
        refine bodyPost_ret (v := .tuple #[.agg #[.int .i64 n0, .slice a1 nl b1, .slice a2 nw b2, .slice a3 nn b3], .int .i64 1]) (by simp [results, Try.results16, go_sem, Y0, Y1, Y2, Y3]; try rfl) rfl ?_
        refine ⟨_, by rw [CE.out.1, CE.out.2, HN0.out], by rw [CE.out.2]; exact HRB.out.next BR.out, BR.out, fun g' hg' => Or.inl hg'⟩
      · obtain ⟨ce, cs⟩ := come_in hi HNO.out
        have CE : Hid (comeE S ⟨ps, pd, pq, px⟩ = 0 ∧ comeS S ⟨ps, pd, pq, px⟩ = { S with W := S.W ++ [⟨ps, pd, pq, px⟩] }) := ⟨ce, cs⟩
        have rdW : Rd wr a2 (pkcs S.W) := RW.out.below HB.out
        have hlW : (pkcs S.W).length = nw * 4 := by rw [pkcs_len, HNW.out]
        have oW := pkcs_one S.W
        have hzm : 0 + nw ≤ 1000000 := by omega
        have z2 := Z2.out
        have szw : w.heap.size ≤ wr.heap.size := HB.out.size
        clear ce cs HNO hi
        go_upto_region 10 with (first
      | (at_builtin; refine wpList_src_at rfl _ _ 26 33 i0 (.agg #[.int .i64 0, .int .i64 0, .int .i64 0, .string ⟨#[]⟩]) 4 40 rfl Try.underlying26 ki hz0 hz1 hz2 rfl (by decide) (by decide) w.heap.size _ (.slice none 0 0) 0 [] rfl (OwnK.nil _ _ _ _) a2 nw b2 rfl z2 (pkcs S.W) hlW rdW oW hzm szw ?_; intro v6 w6 o1 o2 o3)
      | go_in)
        rw [Nat.zero_add, List.nil_append] at o1
        have g6 : wr.grownBy w6 none := o2
        have A6 : w6.grownBy (w6.alloc (.cells #[.int .i64 ps, .int .i64 pd, .int .i64 pq, .string px] 33)) none := grown_alloc _ _
        have D0A : Hid (Bk (w6.alloc (.cells #[.int .i64 ps, .int .i64 pd, .int .i64 pq, .string px] 33)) d #[.int .i64 n0, .slice a1 nl b1, .slice a2 nw b2, .slice a3 nn b3] 29) := (D0.out.kept g6 (by simp)).alloc _
        have D2A : Hid (Bk (w6.alloc (.cells #[.int .i64 ps, .int .i64 pd, .int .i64 pq, .string px] 33)) (d + 1 + 1) #[.int .i64 0, .slice none 0 0, .slice none 0 0, .slice none 0 0] 29) := (D2.out.kept g6 (by simp)).alloc _
        have D16 := D1.out.kept g6 (by simp)
        have B6 : Below w.heap.size w w6 := HB.out.grown g6 HB.out.size (fun _ e => by cases e)
        have BA : Hid (Below w.heap.size w (w6.alloc (.cells #[.int .i64 ps, .int .i64 pd, .int .i64 pq, .string px] 33))) := B6.alloc B6.size _
        have OWA : OwnK 33 4 (w6.alloc (.cells #[.int .i64 ps, .int .i64 pd, .int .i64 pq, .string px] 33)) w.heap.size v6 nw (pkcs S.W) := o1.below ((Below.refl _ _).alloc (Nat.le_refl _) _)
        have BN : Bk (w6.alloc (.cells #[.int .i64 ps, .int .i64 pd, .int .i64 pq, .string px] 33)) w6.heap.size [.int .i64 ps, .int .i64 pd, .int .i64 pq, .string px].toArray 33 := Bk.new w6 _ _
        have NE := OwnK.ne OWA D0A.out (by decide)
        have NE2 := OwnK.ne OWA D2A.out (by decide)
        have ON : ∀ u ∈ [Value.int .i64 ps, .int .i64 pd, .int .i64 pq, .string px], u.oneCell' = true := fun u hu => by simp at hu; rcases hu with rfl | rfl | rfl | rfl <;> rfl
        have p0 := D16.cell 0
        have p1 := D16.cell 1
        have p2 := D16.cell 2
        have p3 := D16.cell 3
        simp only [List.getElem?_toArray, List.getElem?_cons_zero, List.getElem?_cons_succ] at p0 p1 p2 p3
        have hn6 : nw ≤ 1000000 := by omega
        have hb6 : w.heap.size ≤ (w6.alloc (.cells #[.int .i64 ps, .int .i64 pd, .int .i64 pq, .string px] 33)).heap.size := BA.out.size
        clear rdW hlW oW hzm z2 szw o1 o2 o3 g6 A6 D16 B6 D0 D1 D2 HB y2
        go_upto_region 11 with (first
          | (at_builtin; refine wpList_new_at rfl _ _ 26 33 i0 (.agg #[.int .i64 0, .int .i64 0, .int .i64 0, .string ⟨#[]⟩]) 4 40 rfl Try.underlying26 ki hz0 hz1 hz2 rfl (by decide) (by decide) w.heap.size _ v6 _ (pkcs S.W) [.int .i64 ps, .int .i64 pd, .int .i64 pq, .string px] _ rfl OWA rfl _ BN rfl ON hn6 hb6 ?_; intro v7 w7 o1 o2 o3; obtain ⟨a7, c7, e7, q1, q2, q3⟩ := OwnK.rd o1 (by decide); subst e7; have D7 := D0A.out.kept o2 NE; have y2 := D7.cell 2; have f2 := D7.free 2; simp only [List.getElem?_toArray, List.getElem?_cons_zero, List.getElem?_cons_succ] at y2)
          | go_in)
        have D8 : Hid (Bk (w7.setCell ⟨d, 2, none⟩ (.slice a7 (nw + 1) c7)) d #[.int .i64 n0, .slice a1 nl b1, .slice a7 (nw + 1) c7, .slice a3 nn b3] 29) := D7.set 2 _
        have E8 : Hid (Bk (w7.setCell ⟨d, 2, none⟩ (.slice a7 (nw + 1) c7)) (d + 1 + 1) #[.int .i64 0, .slice none 0 0, .slice none 0 0, .slice none 0 0] 29) := (D2A.out.kept o2 NE2).far (by omega)
        have OW8 : Hid (OwnK 33 4 (w7.setCell ⟨d, 2, none⟩ (.slice a7 (nw + 1) c7)) w.heap.size (.slice a7 (nw + 1) c7) (nw + 1) (pkcs S.W ++ [.int .i64 ps, .int .i64 pd, .int .i64 pq, .string px])) := World.ownsRow.kept o1 (grown_set _ _ _ _) (Or.inr (OwnK.ne o1 D7 (by decide)))
        have B8 : Hid (Below w.heap.size w (w7.setCell ⟨d, 2, none⟩ (.slice a7 (nw + 1) c7))) := (BA.out.grown o2 BA.out.size (fun j hj => (OwnK.lt OWA hj).1)).setCell (by show w.heap.size ≤ d; rw [HD.out]; exact Nat.le_refl _) _
        clear D7 y2 f2 o1 o2 o3 q1 q2 q3 D0A D2A NE NE2 OWA BN p0 p1 p2 p3 BA hb6 ON
        generalize w7.setCell ⟨d, 2, none⟩ (.slice a7 (nw + 1) c7) = w8 at *
        have y0 := D8.out.cell 0
        have y1 := D8.out.cell 1
        have y2 := D8.out.cell 2
        have y3 := D8.out.cell 3
        have v0 := E8.out.cell 0
        have v1 := E8.out.cell 1
        have v2 := E8.out.cell 2
        have v3 := E8.out.cell 3
        have f0 := E8.out.free 0
        have f1 := E8.out.free 1
        have f2 := E8.out.free 2
        have f3 := E8.out.free 3
        simp only [List.getElem?_toArray, List.getElem?_cons_zero, List.getElem?_cons_succ] at y0 y1 y2 y3 v0 v1 v2 v3
        have DR : Hid (Bk ((((w8.setCell ⟨d + 1 + 1, 0, none⟩ (.int .i64 n0)).setCell ⟨d + 1 + 1, 1, none⟩ (.slice a1 nl b1)).setCell ⟨d + 1 + 1, 2, none⟩ (.slice a7 (nw + 1) c7)).setCell ⟨d + 1 + 1, 3, none⟩ (.slice a3 nn b3)) (d + 1 + 1) #[.int .i64 n0, .slice a1 nl b1, .slice a7 (nw + 1) c7, .slice a3 nn b3] 29) := set_four E8.out _ _ _ _
        have BR : Hid (Below w.heap.size w ((((w8.setCell ⟨d + 1 + 1, 0, none⟩ (.int .i64 n0)).setCell ⟨d + 1 + 1, 1, none⟩ (.slice a1 nl b1)).setCell ⟨d + 1 + 1, 2, none⟩ (.slice a7 (nw + 1) c7)).setCell ⟨d + 1 + 1, 3, none⟩ (.slice a3 nn b3))) := below_four B8.out (by have := HD.out; omega) _ _ _ _
        have GR : Hid (w8.grownBy ((((w8.setCell ⟨d + 1 + 1, 0, none⟩ (.int .i64 n0)).setCell ⟨d + 1 + 1, 1, none⟩ (.slice a1 nl b1)).setCell ⟨d + 1 + 1, 2, none⟩ (.slice a7 (nw + 1) c7)).setCell ⟨d + 1 + 1, 3, none⟩ (.slice a3 nn b3)) (some (d + 1 + 1))) := grown_four _ _ _ _ _ _
        clear D8 B8
        go_wp2_with fail
        generalize ((((w8.setCell ⟨d + 1 + 1, 0, none⟩ (.int .i64 n0)).setCell ⟨d + 1 + 1, 1, none⟩ (.slice a1 nl b1)).setCell ⟨d + 1 + 1, 2, none⟩ (.slice a7 (nw + 1) c7)).setCell ⟨d + 1 + 1, 3, none⟩ (.slice a3 nn b3)) = v9 at *
        have Y0 := DR.out.cell 0
        have Y1 := DR.out.cell 1
        have Y2 := DR.out.cell 2
        have Y3 := DR.out.cell 3
        simp only [List.getElem?_toArray, List.getElem?_cons_zero, List.getElem?_cons_succ] at Y0 Y1 Y2 Y3
        refine bodyPost_ret (v := .tuple #[.agg #[.int .i64 n0, .slice a1 nl b1, .slice a7 (nw + 1) c7, .slice a3 nn b3], .int .i64 0]) (by simp [results, Try.results16, go_sem, Y0, Y1, Y2, Y3]; try rfl) rfl ?_
        have NE9 := OwnK.ne OW8.out E8.out (by decide)
        have OW9 := World.ownsRow.kept OW8.out GR.out (Or.inr NE9)
        have RB9 := HRB.out.next BR.out
        refine ⟨_, by rw [CE.out.1, CE.out.2, HN0.out], ?_, BR.out, fun g' hg' => Or.inr (OwnK.lt OW8.out hg').1⟩
        rw [CE.out.2]
        refine ⟨RB9.l, ?_, RB9.n, RB9.nx⟩
        have := RR.own OW9 (by decide)
        unfold PR
        rw [pkcs_app, List.length_append, HNW.out]
        exact this
end Go.Proofs.Ytpmkpjnhdehnhaa
