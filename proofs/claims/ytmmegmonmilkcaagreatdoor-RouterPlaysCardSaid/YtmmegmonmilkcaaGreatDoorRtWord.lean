/-
 A step's word: of a parcel whose nodes are those of a mesh.
-/
import Derived.Test.YtmmegmonmilkcaaGreatDoorRtO
namespace Go.Proofs.YtmmegmonmilkcaaGreatDoor
open Go.RowKit
def ndH (c : G.Cf) (h : Int × Int) : Int × Int := (G.nde c h.1, h.2)
def ndP (c : G.Cf) (P : Pc) : Pc := { P with hs := P.hs.map (ndH c) }
theorem nde_node {c : G.Cf} (h : G.chk c = 0) (n : Int) : 0 ≤ G.nde c n ∧ G.nde c n ≤ 4095 := by
 have a := G.nde_in h n
 unfold G.isN at a
 simp only [Bool.and_eq_true, decide_eq_true_eq] at a
 have b := G.nod_in c
 omega
theorem ndP_fine {c : G.Cf} (h : G.chk c = 0) {P : Pc} (F : Fine P) : Fine (ndP c P) := by
 have hl : (ndP c P).hs.length = P.hs.length := List.length_map ..
 obtain ⟨a1, ⟨a2, a3, a4⟩, a5, a6⟩ := (ok_iff P).1 F.ok
 refine ⟨(ok_iff _).2 ⟨a1, ⟨by rw [hl]; exact a2, by rw [hl]; exact a3, by rw [hl]; exact a4⟩, a5, fun y hy => ?_⟩, by rw [hl]; exact F.l1, by rw [hl]; exact F.l6, F.x64⟩
 obtain ⟨z, hz, rfl⟩ := List.mem_map.1 (show y ∈ P.hs.map (ndH c) from hy)
 have k := (headOk_iff _).1 (a6 z hz)
 have n := nde_node h z.1
 exact (headOk_iff _).2 ⟨n.1, n.2, k.2.2.1, k.2.2.2⟩
def ndK (c : G.Cf) (l : List (Int × Int)) (k : Nat) : List (Int × Int) := (l.take k).map (ndH c) ++ l.drop k
theorem ndK_len (c : G.Cf) (l : List (Int × Int)) (k : Nat) : (ndK c l k).length = l.length := by
 unfold ndK
 simp only [List.length_append, List.length_map, List.length_take, List.length_drop]
 omega
theorem ndK_zero (c : G.Cf) (l : List (Int × Int)) : ndK c l 0 = l := by simp [ndK]
theorem ndK_all (c : G.Cf) (l : List (Int × Int)) : ndK c l l.length = l.map (ndH c) := by simp [ndK]
theorem ndK_at (c : G.Cf) (l : List (Int × Int)) (k : Nat) (h : k < l.length) : (ndK c l k).getD k (0, 0) = l.getD k (0, 0) := by
 unfold ndK
 rw [List.getD_eq_getElem?_getD, List.getElem?_append_right (by simp; omega), List.getD_eq_getElem?_getD]
 simp only [List.length_map, List.length_take, List.getElem?_drop]
 congr 2
 omega
theorem ndK_next (c : G.Cf) (l : List (Int × Int)) (k : Nat) (h : k < l.length) : (ndK c l k).set k (G.nde c (l.getD k (0, 0)).1, (l.getD k (0, 0)).2) = ndK c l (k + 1) := by
 unfold ndK
 have e1 : l.drop k = l.getD k (0, 0) :: l.drop (k + 1) := by
  rw [List.drop_eq_getElem_cons h, List.getD_eq_getElem?_getD, List.getElem?_eq_getElem h]
  rfl
 have e2 : l.take (k + 1) = l.take k ++ [l.getD k (0, 0)] := by
  rw [List.take_add_one, List.getElem?_eq_getElem h, List.getD_eq_getElem?_getD, List.getElem?_eq_getElem h]
  rfl
 rw [e1, e2, List.map_append, List.set_append_right _ _ (by simp; omega)]
 simp only [List.length_map, List.length_take, List.append_assoc]
 rw [show k - min k l.length = 0 by omega]
 rfl
theorem pc_set : ∀ (l : List (Int × Int)) (k : Nat), k < l.length → ∀ y : Int, pc (l.set k (y, (l.getD k (0, 0)).2)) = (pc l).set (k * 2) (.int .i64 y)
 | [], k, h, y => by simp at h
 | x :: l, 0, h, y => by simp [pc]
 | x :: l, k + 1, h, y => by
  have := pc_set l k (by simpa using h) y
  have e : ∀ (a : Int × Int) (m : List (Int × Int)), pc (a :: m) = .int .i64 a.1 :: .int .i64 a.2 :: pc m := fun a m => by simp [pc]
  rw [show (k + 1) * 2 = k * 2 + 1 + 1 by omega, List.set_cons_succ, e, e, List.set_cons_succ, List.set_cons_succ, List.getD_cons_succ, this]
theorem Rd.node {w : World} {g o : Nat} {l : List (Int × Int)} (h : Rd w (some ⟨g, o, none⟩) (pc l)) {k : Nat} (hk : k < l.length) (y : Int) : Rd (w.setCell ⟨g, o + k * 2, none⟩ (.int .i64 y)) (some ⟨g, o, none⟩) (pc (l.set k (y, (l.getD k (0, 0)).2))) := by
 rw [pc_set l k hk y]
 intro j v hj
 obtain ⟨h1, -⟩ := pc_at l k hk
 obtain ⟨g1, o1, e1, hg, hc⟩ := h _ _ h1
 simp only [Option.some.injEq, Addr.mk.injEq, and_true] at e1
 obtain ⟨rfl, rfl⟩ := e1
 refine ⟨g, o, rfl, by simpa using hg, ?_⟩
 rw [List.getElem?_set] at hj
 by_cases e : k * 2 = j
 ·subst e
  rw [if_pos rfl] at hj
  split at hj
  ·cases hj
   exact World.cell?_setCell_same _ _ _ hc
  ·cases hj
 ·rw [if_neg e] at hj
  obtain ⟨g2, o2, e2, -, hc2⟩ := h _ _ hj
  simp only [Option.some.injEq, Addr.mk.injEq, and_true] at e2
  obtain ⟨rfl, rfl⟩ := e2
  rw [World.cell?_setCell_other _ _ _ _ (by intro c; simp only [Addr.mk.injEq] at c; omega)]
  exact hc2
structure WdS (w wr : World) (A PB g o : Nat) (OP CF PC : Array Value) (H : List (Int × Int)) : Prop where
 p : Bk wr A OP 42
 q : Bk wr (A + 1) CF 23
 r : Bk wr PB PC 39
 h : Rd wr (some ⟨g, o, none⟩) (pc H)
 m : ∃ cs t, Bk wr g cs t
 b : Below A w wr
 ga : A + 2 ≤ g
 gp : g < PB
theorem WdS.next {w wr w' : World} {A PB g o : Nat} {OP CF PC : Array Value} {H : List (Int × Int)} (s : WdS w wr A PB g o OP CF PC H) (hb : Below wr.heap.size wr w') : WdS w w' A PB g o OP CF PC H := by
 obtain ⟨cs, t, hm⟩ := s.m
 exact ⟨s.p.next hb, s.q.next hb, s.r.next hb, s.h.below hb, ⟨cs, t, hm.next hb⟩, s.b.trans (hb.mono (Nat.le_of_lt s.p.lt)), s.ga, s.gp⟩
theorem WdS.node {w wr : World} {A PB g o : Nat} {OP CF PC : Array Value} {H : List (Int × Int)} (s : WdS w wr A PB g o OP CF PC H) {k : Nat} (hk : k < H.length) (y : Int) :
  WdS w (wr.setCell ⟨g, o + k * 2, none⟩ (.int .i64 y)) A PB g o OP CF PC (H.set k (y, (H.getD k (0, 0)).2)) := by
 obtain ⟨cs, t, hm⟩ := s.m
 have h1 := s.ga
 have h2 := s.gp
 exact ⟨s.p.far (by omega), s.q.far (by omega), s.r.far (by omega), s.h.node hk y, ⟨_, t, hm.set _ _⟩, s.b.setCell (by show A ≤ g; omega) _, h1, h2⟩
theorem WdS.free {w wr : World} {A PB g o : Nat} {OP CF PC : Array Value} {H : List (Int × Int)} (s : WdS w wr A PB g o OP CF PC H) (j : Nat) : wr.frozen? ⟨g, j, none⟩ = false := by
 obtain ⟨cs, t, hm⟩ := s.m
 exact hm.free j
theorem WdS.cell {w wr : World} {A PB g o : Nat} {OP CF PC : Array Value} {H : List (Int × Int)} (s : WdS w wr A PB g o OP CF PC H) {k : Nat} (hk : k < H.length) : g < wr.heap.size ∧ wr.cell? ⟨g, o + k * 2, none⟩ = some (.int .i64 (H.getD k (0, 0)).1) := by
 obtain ⟨g', o', e, h1, h2, -⟩ := s.h.pair hk
 simp only [Option.some.injEq, Addr.mk.injEq, and_true] at e
 obtain ⟨rfl, rfl⟩ := e
 exact ⟨h1, h2⟩
def wordR (c : G.Cf) (o : Opn) : Nat := (ndP c (gd ⟨o.s, o.cc, o.hs, o.x⟩)).ws.getD (rst o.n (ndP c (gd ⟨o.s, o.cc, o.hs, o.x⟩)).ws.length) 0
theorem wordR_lt {c : G.Cf} (o : Opn) : wordR c o < 18446744073709551616 := by
 unfold wordR
 rw [List.getD_eq_getElem?_getD]
 cases e : (ndP c (gd ⟨o.s, o.cc, o.hs, o.x⟩)).ws[rst o.n (ndP c (gd ⟨o.s, o.cc, o.hs, o.x⟩)).ws.length]? with
 | none => decide
 | some x => exact ws_lt _ x (List.mem_of_getElem? e)
theorem wcfg_cells {v : World} {b : Nat} {cw ch cl cd cr ci cb : Int} {we ca : Bool} (q : Bk v b (zq5 cw ch cl cd cr ci cb we ca) 23) :
  v.cell? ⟨b, 0, none⟩ = some (.int .i64 cw) ∧ v.cell? ⟨b, 1, none⟩ = some (.int .i64 ch) ∧ v.cell? ⟨b, 2, none⟩ = some (.int .i64 cl) ∧ v.cell? ⟨b, 3, none⟩ = some (.int .i64 cd) ∧ v.cell? ⟨b, 4, none⟩ = some (.int .i64 cr) ∧ v.cell? ⟨b, 5, none⟩ = some (.int .i64 ci) ∧ v.cell? ⟨b, 6, none⟩ = some (.int .i64 cb) ∧ v.cell? ⟨b, 7, none⟩ = some (.bool we) ∧ v.cell? ⟨b, 8, none⟩ = some (.bool ca) :=
 ⟨(q.cell 0).trans rfl, (q.cell 1).trans rfl, (q.cell 2).trans rfl, (q.cell 3).trans rfl, (q.cell 4).trans rfl, (q.cell 5).trans rfl, (q.cell 6).trans rfl, (q.cell 7).trans rfl, (q.cell 8).trans rfl⟩
set_option maxRecDepth 100000 in
set_option maxHeartbeats 8000000 in
theorem word_any (o : Opn) (c : G.Cf) (hc : G.chk c = 0) (w : World) (ho : o.In w) : Calls Tryz.prog 17 #[ov o, G.cfv c] w fun e w' => e = .returned (.int .u64 (wordR c o : Int)) ∧ Below w.heap.size w w' := by
 have F := fine ⟨o.s, o.cc, o.hs, o.x⟩
 have F2 := ndP_fine hc F
 obtain ⟨q0, q1, q2, q3⟩ := two_blocks w (oc o) (G.cfc c) 42 23
 have P0 : Hid (Bk _ w.heap.size (oc o) 42) := q0
 have Q0 : Hid (Bk _ (w.heap.size + 1) (G.cfc c) 23) := q1
 have B0 : Hid (Below w.heap.size w _) := q2
 have GC := good_new o.s o.cc o.ha o.hcap o.x o.hs _ ho.hm ho.xm (ho.hr.below q2)
 unfold wordR
 obtain ⟨P, hP⟩ : ∃ P, gd ⟨o.s, o.cc, o.hs, o.x⟩ = P := ⟨_, rfl⟩
 rw [hP] at F F2 ⊢
 rw [show (⟨md o.s 4096, o.cc, gH o.cc o.hs, gx o.x⟩ : Pc) = P from hP] at GC
 have WC : ∀ a cap v, Rd v a (pc (ndK c P.hs P.hs.length)) → Calls Tryz.prog 30 #[pcv P.s P.c (.slice a P.hs.length cap) P.x] v fun e w' => ∃ a' cap', e = .returned (.tuple #[.slice a' (ndP c P).ws.length cap', .int .i64 0]) ∧ (ndP c P).ws.length ≤ cap' ∧ Rd w' a' (vw (ndP c P).ws) ∧ Below v.heap.size v w' := fun a cap v hr => by
  have := F2.rwords a cap v (by rw [ndK_all] at hr; exact hr)
  rw [show (ndP c P).hs.length = P.hs.length from List.length_map ..] at this
  exact this
 have hsm : (ndP c P).ws.length ≤ 17 := F2.ws_small.1
 have hp1 : 1 ≤ (ndP c P).ws.length := by rw [F2.ws_small.2]; omega
 have hl1 := F.l1
 have hl6 := F.l6
 have VA : Hid (∀ k, k < (ndP c P).ws.length → (vw (ndP c P).ws)[k]? = some (.int .u64 ((ndP c P).ws.getD k 0 : Nat))) := show _ from fun k hk => vw_at hk
 generalize (ndP c P).ws = L at *
 have KA : Hid (∀ k, k < P.hs.length → (ndK c P.hs k).getD k (0, 0) = P.hs.getD k (0, 0)) := show _ from ndK_at c P.hs
 have KN : Hid (∀ k, k < P.hs.length → (ndK c P.hs k).set k (G.nde c (P.hs.getD k (0, 0)).1, (P.hs.getD k (0, 0)).2) = ndK c P.hs (k + 1)) := show _ from ndK_next c P.hs
 have KL : Hid (∀ k, (ndK c P.hs k).length = P.hs.length) := show _ from ndK_len c P.hs
 have K0 : Hid (ndK c P.hs 0 = P.hs) := ndK_zero c P.hs
 have NC : Hid (∀ n v, Calls Tryz.prog 11 #[G.cfv c, .int .i64 n] v fun e w' => e = .returned (.int .i64 (G.nde c n)) ∧ Below v.heap.size v w') := show _ from fun n v => G.node_any c hc n v
 generalize ndK c P.hs = Kf at *
 generalize G.nde c = f at *
 obtain ⟨s', c', hs', x'⟩ := P
 try dsimp only at *
 obtain ⟨n1, hn1⟩ : ∃ n1, hs'.length = n1 := ⟨_, rfl⟩
 have r1 := rst_in o.n (m := L.length) (by omega) (by omega)
 have r2 := rst_eq o.n (m := L.length) (by omega) (by omega)
 generalize rst o.n L.length = R at *
 have VR : Hid ((vw L)[R]? = some (.int .u64 ((L.getD R 0 : Nat) : Int))) := VA.out R r1.1
 clear VA
 generalize L.getD R 0 = Y at *
 generalize hnL : L.length = nL at *
 unfold PcN at GC
 dsimp only at GC
 rw [hn1] at GC WC KA KN KL hl1 hl6
 have HN : Hid (hs'.length = n1) := hn1
 clear F F2 hP hc ho q0 q1 q2 q3 hn1
 obtain ⟨kd, p, l, n, s, cc, ha, hcap, hs, x, ma, mcap, my⟩ := o
 obtain ⟨cw, ch, cl, cd, cr, ci, cb, we, ca⟩ := c
 simp only [ov, oc, G.cfv, G.cfc, pcv, pcc] at *
 generalize hs.length = h1 at *
 generalize my.length = m1 at *
 go_enter Tryz.func17, Tryz.ntmps17
 go_upto_region 1 with fail
 generalize (w.alloc (.cells (zq9 kd p l n s cc ha h1 hcap x ma m1 mcap) 42)).alloc (.cells (zq5 cw ch cl cd cr ci cb we ca) 23) = v0 at *
 obtain ⟨A, hA⟩ : ∃ A, w.heap.size = A := ⟨_, rfl⟩
 have HAW : Hid (w.heap.size = A) := hA
 rw [hA] at P0 Q0 B0 ⊢
 clear hA
 have d4 : v0.cell? ⟨A, 4, none⟩ = some (.int .i64 s) := P0.out.cell 4
 have d5 : v0.cell? ⟨A, 5, none⟩ = some (.bool cc) := P0.out.cell 5
 have d6 : v0.cell? ⟨A, 6, none⟩ = some (.slice ha h1 hcap) := P0.out.cell 6
 have d7 : v0.cell? ⟨A, 7, none⟩ = some (.string x) := P0.out.cell 7
 go_upto_region 2 with (go_at_call 29; with_reducible refine GC.mono ?_; rintro e w2 ⟨ra, rcap, rfl, hrc, rd2, b2, nw2⟩)
 clear d4 d5 d6 d7 GC
 obtain ⟨g, o, hra, hg, -, -⟩ := rd2.pair (k := 0) (by rw [HN.out]; omega)
 subst hra
 obtain ⟨hgv, hgb⟩ := nw2 _ rfl
 have ha2 : Below w2.heap.size w2 (w2.alloc (.cells (zq7 s' c' (some ⟨g, o, none⟩) n1 rcap x') 39)) := (Below.refl _ _).alloc (Nat.le_refl _) _
 have S0 : Hid (WdS w (w2.alloc (.cells (zq7 s' c' (some ⟨g, o, none⟩) n1 rcap x') 39)) A w2.heap.size g o (zq9 kd p l n s cc ha h1 hcap x ma m1 mcap) (zq5 cw ch cl cd cr ci cb we ca) (zq7 s' c' (some ⟨g, o, none⟩) n1 rcap x') (Kf 0)) := by
  obtain ⟨cs, t, hm⟩ := hgb
  exact show WdS _ _ _ _ _ _ _ _ _ _ from ⟨(P0.out.next b2).next ha2, (Q0.out.next b2).next ha2, Bk.new _ _ _, by rw [K0.out]; exact rd2.below ha2, ⟨cs, t, hm.next ha2⟩, (B0.out.trans (b2.mono (Nat.le_of_lt P0.out.lt))).trans (ha2.mono (Nat.le_trans (Nat.le_of_lt P0.out.lt) b2.size)), by have := Q0.out.lt; show A + 2 ≤ g; have h9 : v0.heap.size ≤ g := hgv; omega, hg⟩
 generalize w2.alloc (.cells (zq7 s' c' (some ⟨g, o, none⟩) n1 rcap x') 39) = v2 at *
 generalize w2.heap.size = PB at *
 clear P0 Q0 B0 b2 rd2 nw2 hgv hgb ha2 hg K0
 go_wp2_with fail
 go_loopw [6] (fun i wr => ∃ k, k ≤ n1 ∧ i = .int .i64 (k : Nat) ∧ WdS w wr A PB g o (zq9 kd p l n s cc ha h1 hcap x ma m1 mcap) (zq5 cw ch cl cd cr ci cb we ca) (zq7 s' c' (some ⟨g, o, none⟩) n1 rcap x') (Kf k)) (fun i _ => n1 - (RowKit.intOf i).toNat)
 case atStart => exact ⟨0, Nat.zero_le _, rfl, S0.out⟩
 case round =>
  obtain ⟨k, hk, rfl, s1⟩ := hrel
  have S1 : Hid (WdS w wr A PB g o (zq9 kd p l n s cc ha h1 hcap x ma m1 mcap) (zq5 cw ch cl cd cr ci cb we ca) (zq7 s' c' (some ⟨g, o, none⟩) n1 rcap x') (Kf k)) := s1
  clear s1 S0
  have r2c : wr.cell? ⟨PB, 2, none⟩ = some (.slice (some ⟨g, o, none⟩) n1 rcap) := S1.out.r.cell 2
  by_cases hlt : k < n1
  ·have e1 : (k : Int) < (n1 : Int) := by omega
   have e2 : (0 : Int) ≤ (k : Int) := by omega
   have hkl : k < (Kf k).length := by rw [KL.out]; exact hlt
   obtain ⟨z1, z2⟩ := S1.out.cell hkl
   rw [KA.out k hlt] at z2
   have HK := KN.out k hlt
   have HA := KA.out k hlt
   generalize hs'.getD k (0, 0) = y at *
   obtain ⟨y1, y2⟩ := y
   simp only at *
   go_wp2_with fail
   have S2 := S1.out.next (Below.refl _ _).drew
   have T1 := And.intro (S2.r.cell 2) (And.intro (show wr.drew.cell? ⟨g, o + k * 2, none⟩ = some (.int .i64 y1) from z2) (And.intro (S2.free (o + k * 2)) (wcfg_cells S2.q)))
   refine wp_region_G (fun V => V.cell? ⟨PB, 2, none⟩ = some (.slice (some ⟨g, o, none⟩) n1 rcap) ∧ V.cell? ⟨g, o + k * 2, none⟩ = some (.int .i64 y1) ∧ V.frozen? ⟨g, o + k * 2, none⟩ = false ∧ V.cell? ⟨A + 1, 0, none⟩ = some (.int .i64 cw) ∧ V.cell? ⟨A + 1, 1, none⟩ = some (.int .i64 ch) ∧ V.cell? ⟨A + 1, 2, none⟩ = some (.int .i64 cl) ∧ V.cell? ⟨A + 1, 3, none⟩ = some (.int .i64 cd) ∧ V.cell? ⟨A + 1, 4, none⟩ = some (.int .i64 cr) ∧ V.cell? ⟨A + 1, 5, none⟩ = some (.int .i64 ci) ∧ V.cell? ⟨A + 1, 6, none⟩ = some (.int .i64 cb) ∧ V.cell? ⟨A + 1, 7, none⟩ = some (.bool we) ∧ V.cell? ⟨A + 1, 8, none⟩ = some (.bool ca)) 13 (by kernel_rfl) ?_
   refine wpAnyG_tk [13] (some 19) (i := 0) (v := ?v0) rfl rfl (by kernel_rfl) (fun _ _ _ h => h) (Or.inl ⟨by rfl, ?y0⟩) T1 ?r0
   case y0 => (intro V hSV; obtain ⟨d0, d1, d2, d3, d4, d5, d6, d7, d8, d9, d10, d11⟩ := hSV; go_simp; try with_reducible rfl)
   simp only [Act.put, sqa, sqz, sqs]
   refine wpAnyG_tk [13] (some 20) (i := 1) (v := ?v1) rfl rfl (by kernel_rfl) (fun _ _ _ h => h) (Or.inl ⟨by rfl, ?y1⟩) T1 ?r1
   case y1 => (intro V hSV; obtain ⟨d0, d1, d2, d3, d4, d5, d6, d7, d8, d9, d10, d11⟩ := hSV; go_simp; try with_reducible rfl)
   simp only [Act.put, sqa, sqz, sqs]
   refine wpAnyG_tk [13] (some 21) (i := 2) (v := ?v2) rfl rfl (by kernel_rfl) (fun _ _ _ h => h) (Or.inl ⟨by rfl, ?y2⟩) T1 ?r2
   case y2 => (intro V hSV; obtain ⟨d0, d1, d2, d3, d4, d5, d6, d7, d8, d9, d10, d11⟩ := hSV; go_simp; try with_reducible rfl)
   simp only [Act.put, sqa, sqz, sqs]
   refine wpAnyG_tk [13] (some 22) (i := 3) (v := ?v3) rfl rfl (by kernel_rfl) (fun _ _ _ h => h) (Or.inl ⟨by rfl, ?y3⟩) T1 ?r3
   case y3 => (intro V hSV; obtain ⟨d0, d1, d2, d3, d4, d5, d6, d7, d8, d9, d10, d11⟩ := hSV; go_simp; try with_reducible rfl)
   simp only [Act.put, sqa, sqz, sqs]
   refine wpAnyG_tk [13] (some 23) (i := 4) (v := ?v4) rfl rfl (by kernel_rfl) (fun _ _ _ h => h) (Or.inl ⟨by rfl, ?y4⟩) T1 ?r4
   case y4 => (intro V hSV; obtain ⟨d0, d1, d2, d3, d4, d5, d6, d7, d8, d9, d10, d11⟩ := hSV; go_simp; try with_reducible rfl)
   simp only [Act.put, sqa, sqz, sqs]
   refine wpAnyG_tk [13] (some 24) (i := 5) (v := ?v5) rfl rfl (by kernel_rfl) (fun _ _ _ h => h) (Or.inl ⟨by rfl, ?y5⟩) T1 ?r5
   case y5 => (intro V hSV; obtain ⟨d0, d1, d2, d3, d4, d5, d6, d7, d8, d9, d10, d11⟩ := hSV; go_simp; try with_reducible rfl)
   simp only [Act.put, sqa, sqz, sqs]
   refine wpAnyG_tk [13] (some 25) (i := 6) (v := ?v6) rfl rfl (by kernel_rfl) (fun _ _ _ h => h) (Or.inl ⟨by rfl, ?y6⟩) T1 ?r6
   case y6 => (intro V hSV; obtain ⟨d0, d1, d2, d3, d4, d5, d6, d7, d8, d9, d10, d11⟩ := hSV; go_simp; try with_reducible rfl)
   simp only [Act.put, sqa, sqz, sqs]
   refine wpAnyG_tk [13] (some 26) (i := 7) (v := ?v7) rfl rfl (by kernel_rfl) (fun _ _ _ h => h) (Or.inl ⟨by rfl, ?y7⟩) T1 ?r7
   case y7 => (intro V hSV; obtain ⟨d0, d1, d2, d3, d4, d5, d6, d7, d8, d9, d10, d11⟩ := hSV; go_simp; try with_reducible rfl)
   simp only [Act.put, sqa, sqz, sqs]
   refine wpAnyG_tk [13] (some 27) (i := 8) (v := ?v8) rfl rfl (by kernel_rfl) (fun _ _ _ h => h) (Or.inl ⟨by rfl, ?y8⟩) T1 ?r8
   case y8 => (intro V hSV; obtain ⟨d0, d1, d2, d3, d4, d5, d6, d7, d8, d9, d10, d11⟩ := hSV; go_simp; try with_reducible rfl)
   simp only [Act.put, sqa, sqz, sqs]
   refine wpAnyG_tk [13] (some 28) (i := 9) (v := ?v9) rfl rfl (by kernel_rfl) (fun _ _ _ h => h) (Or.inl ⟨by rfl, ?y9⟩) T1 ?r9
   case y9 => (intro V hSV; obtain ⟨d0, d1, d2, d3, d4, d5, d6, d7, d8, d9, d10, d11⟩ := hSV; go_simp; try with_reducible rfl)
   simp only [Act.put, sqa, sqz, sqs]
   refine wpAnyG_one (i := 10) (by kernel_rfl) rfl (fun K hK => ?_)
   go_simp
   with_reducible refine (NC.out y1 _).mono ?_
   rintro e w5 ⟨rfl, b5⟩
   have S5 := S2.next b5
   have T2 := And.intro (S5.r.cell 2) (And.intro ((b5.cell (p := ⟨g, o + k * 2, none⟩) z1).trans z2) (And.intro (S5.free (o + k * 2)) (wcfg_cells S5.q)))
   refine hK.out _ _ (Or.inr T2) ?_
   clear hK K
   try simp only [Act.put, sqa, sqz, sqs]
   refine wpAnyG_tk [12, 13] (some 30) (i := 11) (v := ?v11) rfl rfl (by kernel_rfl) (fun _ _ _ h => h) (Or.inl ⟨by rfl, ?y11⟩) T2 ?r11
   case y11 => (intro V hSV; obtain ⟨d0, d1, d2, d3, d4, d5, d6, d7, d8, d9, d10, d11⟩ := hSV; go_simp; try with_reducible rfl)
   simp only [Act.put, sqa, sqz, sqs]
   refine wpAnyG_tk [13] (some 31) (i := 12) (v := ?v12) rfl rfl (by kernel_rfl) (fun _ _ _ h => h) (Or.inl ⟨by rfl, ?y12⟩) T2 ?r12
   case y12 => (intro V hSV; obtain ⟨d0, d1, d2, d3, d4, d5, d6, d7, d8, d9, d10, d11⟩ := hSV; go_simp; try with_reducible rfl)
   simp only [Act.put, sqa, sqz, sqs]
   have c5 : w5.cell? ⟨g, o + k * 2, none⟩ = some (.int .i64 y1) := (b5.cell (p := ⟨g, o + k * 2, none⟩) z1).trans z2
   have f5 : w5.frozen? ⟨g, o + k * 2, none⟩ = false := S5.free (o + k * 2)
   refine wpAnyG_one (i := 13) (by kernel_rfl) rfl (fun K hK => ?_)
   go_simp
   refine hK.out _ _ (Or.inl (by kernel_rfl)) ?_
   clear hK K
   refine wpAnyG_done (by kernel_rfl) ?_ _
   have S6 : Hid (WdS w (w5.setCell ⟨g, o + k * 2, none⟩ (.int .i64 (f y1))) A PB g o (zq9 kd p l n s cc ha h1 hcap x ma m1 mcap) (zq5 cw ch cl cd cr ci cb we ca) (zq7 s' c' (some ⟨g, o, none⟩) n1 rcap x') (Kf (k + 1))) := by
    have := S5.node hkl (f y1)
    rw [HA] at this
    rw [← HK]
    exact this
   clear S5 T1 T2 S2 S1 c5 f5 r2c z1 z2 b5 HK HA hkl
   go_wp2
   exact ⟨⟨k + 1, by omega, by go_num, S6.out⟩, by simp [RowKit.intOf]; omega⟩
  ·obtain rfl : k = n1 := by omega
   have e1 : ¬ (k : Int) < (k : Int) := by omega
   have t0 : wr.cell? ⟨PB, 0, none⟩ = some (.int .i64 s') := S1.out.r.cell 0
   have t1 : wr.cell? ⟨PB, 1, none⟩ = some (.bool c') := S1.out.r.cell 1
   have t3 : wr.cell? ⟨PB, 3, none⟩ = some (.string x') := S1.out.r.cell 3
   go_wp2_with fail
   go_at_call 30
   with_reducible refine (WC _ _ _ S1.out.h).mono ?_
   rintro e w5 ⟨la, lcap, rfl, hlc, rd5, b5⟩
   have S5 : Hid (WdS w w5 A PB g o _ _ _ (Kf k)) := S1.out.next b5
   obtain ⟨g5, o5, rfl, hg5, hv5⟩ := rd5 R _ VR.out
   clear S1 t0 t1 t3 r2c WC rd5 b5 hlc hg5
   have a3 : w5.cell? ⟨A, 3, none⟩ = some (.int .i64 n) := S5.out.p.cell 3
   go_wp2_with fail
   go_ret
   exact ⟨rfl, by rw [HAW.out]; exact S5.out.b⟩
end Go.Proofs.YtmmegmonmilkcaaGreatDoor
