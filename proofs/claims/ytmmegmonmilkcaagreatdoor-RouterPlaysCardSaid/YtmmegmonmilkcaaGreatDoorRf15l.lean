/-
 The law's like: the program's router has what the document's has. (Written by gen_rf15l.py.)
-/
import Derived.Test.YtmmegmonmilkcaaGreatDoorRfA
import Derived.Test.YtmmegmonmilkcaaGreatDoorRf15i
import Derived.Test.YtmmegmonmilkcaaGreatDoorRtH
import Derived.Deep.QuietTactic
import Derived.BigQuiet
namespace Go.Proofs.YtmmegmonmilkcaaGreatDoor
open Go.RowKit
set_option maxRecDepth 100000 in
set_option maxHeartbeats 8000000 in
theorem like15 {w : World} {b : Nat} {c : G.Cf} {S : RS} {F D : Nat → Prop} {v : Value} (h : Rt w b c S F) (hd : DR w c S v D) :
  Calls Tryz.prog 26 #[.pointer (some ⟨b, 0, none⟩), v] w fun e w' => e = .returned (.bool true) ∧ Below w.heap.size w w' := by
 have ok := h.ok
 have hn := h.n
 have IP : Hid (∀ u, Below w.heap.size w u → Calls Tryz.prog 32 #[.pointer (some ⟨b, 0, none⟩)] u fun e w' => e = .returned (.bool (idleRt S)) ∧ Below u.heap.size u w') := show _ from fun u hu => router_idle (h.next hu)
 have DI : Hid (∀ u, Below w.heap.size w u → Calls Tryz.prog 73 #[v] u fun e w' => e = .returned (.bool (idleRt S)) ∧ Below u.heap.size u w') := show _ from fun u hu => ridle15 (hd.next hu) ok
 have CT : Hid (∀ u, Below w.heap.size w u → ∀ p l z : Nat, p < 5 → l < S.n → p * S.n + l = z →
   (Calls Tryz.prog 27 #[.pointer (some ⟨b, 0, none⟩), .int .i64 (p : Int), .int .i64 (l : Int)] u fun e w' => e = .returned (.tuple #[.int .i64 ((ownerRt S (p : Int) (l : Int)).1 : Int), .int .i64 ((ownerRt S (p : Int) (l : Int)).2.1 : Int), .bool (ownerRt S (p : Int) (l : Int)).2.2]) ∧ Below u.heap.size u w') ∧
   (Calls Tryz.prog 35 #[.pointer (some ⟨b, 0, none⟩), .int .i64 (p : Int), .int .i64 (l : Int)] u fun e w' => e = .returned (.int .i64 ((S.ins.getD z zks).ws.length : Int)) ∧ Below u.heap.size u w') ∧
   (Calls Tryz.prog 36 #[.pointer (some ⟨b, 0, none⟩), .int .i64 (p : Int), .int .i64 (l : Int)] u fun e w' => e = .returned (.int .i64 (((S.ins.getD z zks).r : Int) - ((S.ins.getD z zks).ws.length : Int))) ∧ Below u.heap.size u w') ∧
   (Calls Tryz.prog 28 #[.pointer (some ⟨b, 0, none⟩), .int .i64 (p : Int), .int .i64 (l : Int)] u fun e w' => e = .returned (.int .i64 (S.ins.getD z zks).ph) ∧ Below u.heap.size u w') ∧
   ownerRt S (p : Int) (l : Int) = if 0 ≤ S.own.getD z 0 then ((S.own.getD z 0).toNat / S.n, (S.own.getD z 0).toNat % S.n, true) else (0, 0, false)) := show _ from fun u hu p l z hp hl hz => by
  have hr := h.next hu
  have hin : inRt S (p : Int) (l : Int) = true := inRt_nat hp hl
  have hix : ixRt S (p : Int) (l : Int) = z := by unfold ixRt; rw [Int.toNat_natCast, Int.toNat_natCast]; exact hz
  have h1 := router_len hr (p : Int) (l : Int)
  have h2 := router_room hr (p : Int) (l : Int)
  have h3 := router_phase hr (p : Int) (l : Int)
  rw [if_pos hin, hix] at h1 h2 h3
  refine ⟨router_owner hr _ _, h1, h2, h3, ?_⟩
  unfold ownerRt
  rw [hin, hix]
  by_cases e : 0 ≤ S.own.getD z 0
  ·rw [if_pos ⟨rfl, e⟩, if_pos e]
  ·rw [if_neg (fun c => e c.2), if_neg e]
 obtain ⟨L, g1, g2, g3, g4, c1, c2, c3, c4, rfl, eL, r, dd, xx⟩ := hd
 have CX : Hid (∀ u, Below w.heap.size w u → ∀ z, z < 5 * S.n → ∃ (K : KS) (a : Option Addr) (cap : Nat), (u.cell? ⟨g1, z * 6, none⟩ = some (.int .i64 (K.r : Int)) ∧ u.cell? ⟨g1, z * 6 + 1, none⟩ = some (.int .i64 K.ph) ∧ u.cell? ⟨g1, z * 6 + 2, none⟩ = some (.int .i64 K.port) ∧ u.cell? ⟨g1, z * 6 + 3, none⟩ = some (.int .i64 K.lane) ∧ u.cell? ⟨g1, z * 6 + 4, none⟩ = some (.slice a K.ws.length cap) ∧ u.cell? ⟨g1, z * 6 + 5, none⟩ = some (.bool K.cp)) ∧ S.ins.getD z zks = K ∧ KOk K ∧ u.cell? ⟨g2, z, none⟩ = some (.int .i64 (S.own.getD z 0)) ∧ S.own.getD z 0 < ((5 * S.n : Nat) : Int)) := show _ from fun u hu z hz => by
  obtain ⟨⟨K, a, cap⟩, hx0, hK, hxm, hkL⟩ := lw_at eL ok.il hz
  simp only at hK
  refine ⟨K, a, cap, lw_six (r.next hu).a1 hx0 hz, hK.symm, by rw [hK]; exact ok.ik _ (ins_mem ok hz), ow_cell (r.next hu).a2 hz, ?_⟩
  by_cases h0 : 0 ≤ S.own.getD z 0
  ·exact ((ok.oi z hz).2 h0).1
  ·omega
 have HL : Hid (1 ≤ S.n ∧ S.n ≤ 8) := show _ ∧ _ from ⟨ok.n1, ok.n8⟩
 clear h ok eL r dd xx
 generalize idleRt S = RI at *
 have GO : Hid (∀ z, S.ins.getD z zks = S.ins.getD z zks) := show _ from fun _ => rfl
 obtain ⟨owS, how⟩ : ∃ o : Int → Int → Nat × Nat × Bool, ∀ p l, ownerRt S p l = o p l := ⟨ownerRt S, fun _ _ => rfl⟩
 simp only [how] at CT
 clear how GO
 generalize S.ins = ins at *
 generalize S.own = own at *
 generalize S.node = node at *
 generalize S.n = n at *
 clear S
 obtain ⟨cw, ch, cl, cd, cr, ci, cb, we, ca⟩ := c
 simp only [rrv, rrc] at *
 subst hn
 have P0 : Hid (Bk (w.alloc (.cells (zqP cw ch n cd cr ci cb we ca node g1 c1 g2 c2 g3 c3 g4 c4 (5 * n)) 34)) w.heap.size (zqP cw ch n cd cr ci cb we ca node g1 c1 g2 c2 g3 c3 g4 c4 (5 * n)) 34) := Bk.new _ _ _
 have B0 : Hid (Below w.heap.size w (w.alloc (.cells (zqP cw ch n cd cr ci cb we ca node g1 c1 g2 c2 g3 c3 g4 c4 (5 * n)) 34))) := (Below.refl _ _).alloc (Nat.le_refl _) _
 go_enter Tryz.func26, Tryz.ntmps26
 go_upto_region 1 with fail
 generalize w.alloc (.cells (zqP cw ch n cd cr ci cb we ca node g1 c1 g2 c2 g3 c3 g4 c4 (5 * n)) 34) = v0 at *
 obtain ⟨q, hq⟩ : ∃ q, w.heap.size = q := ⟨_, rfl⟩
 have HQ : Hid (w.heap.size = q) := hq
 rw [hq] at P0 ⊢
 clear hq
 have y2 : v0.cell? ⟨q, 2, none⟩ = some (.int .i64 (n : Int)) := (P0.out.cell 2).trans rfl
 go_wp2_with fail
 go_loopw [6] (fun x wr => ∃ p : Nat, p ≤ 5 ∧ x = .int .i64 (p : Int) ∧ Below w.heap.size w wr ∧ Bk wr q (zqP cw ch n cd cr ci cb we ca node g1 c1 g2 c2 g3 c3 g4 c4 (5 * n)) 34) (fun x _ => 5 - (RowKit.intOf x).toNat)
 case atStart => exact ⟨0, Nat.zero_le _, rfl, B0.out, P0.out⟩
 case round =>
  clear B0 P0 y2
  obtain ⟨p, hp, rfl, B1', P1'⟩ := hrel
  have B1 : Hid (Below w.heap.size w wr) := B1'
  have P1 : Hid (Bk wr q (zqP cw ch n cd cr ci cb we ca node g1 c1 g2 c2 g3 c3 g4 c4 (5 * n)) 34) := P1'
  clear B1' P1'
  by_cases hlt : p < 5
  case neg =>
   have e1 : ¬ (p : Int) < 5 := by omega
   clear hp hlt
   go_upto_region 13 with fail
   have T0 : Bk wr.drew q (zqP cw ch n cd cr ci cb we ca node g1 c1 g2 c2 g3 c3 g4 c4 (5 * n)) 34 := P1.out.next (Below.refl _ _).drew
   have B2 : Below w.heap.size w wr.drew := B1.out.trans ((Below.refl _ _).drew.mono B1.out.size)
   refine wp_region_G (fun V => Bk V q (zqP cw ch n cd cr ci cb we ca node g1 c1 g2 c2 g3 c3 g4 c4 (5 * n)) 34) 5 (by kernel_rfl) ?_
   refine wpAnyG_tk [5] (some 99) (i := 0) (v := ?v0) rfl rfl (by kernel_rfl) (fun _ _ _ h => h) (Or.inl ⟨by rfl, ?y0⟩) T0 ?r0
   case y0 => (intro V hSV; have s0 := hSV; go_simp; try with_reducible rfl)
   try simp only [Act.put, sqa, sqz, sqs]
   refine wpAnyG_tk [5] (some 101) (i := 2) rfl rfl (by kernel_rfl) (fun _ _ _ h => h) (yields_bk rfl 34 (.tmp 3) rfl q rfl _ (fun V hSV => hSV) Tryz.underlying34 rfl (by kernel_rfl)) T0 ?r2
   try simp only [Act.put, sqa, sqz, sqs]
   generalize wr.drew = v4 at *
   refine wpAnyG_one (i := 1) (by kernel_rfl) rfl (fun K hK => ?_)
   go_simp
   with_reducible refine (IP.out _ B2).mono ?_
   rintro e u1 ⟨rfl, b1⟩
   have T1 := T0.next b1
   have B3 := B2.trans (b1.mono B2.size)
   refine hK.out _ _ (Or.inr T1) ?_
   clear hK K
   try simp only [Act.put, sqa, sqz, sqs]
   refine wpAnyG_one (i := 3) (by kernel_rfl) rfl (fun K hK => ?_)
   go_simp
   with_reducible refine (DI.out _ B3).mono ?_
   rintro e u2 ⟨rfl, b2⟩
   have T2 := T1.next b2
   have B4 := B3.trans (b2.mono B3.size)
   refine hK.out _ _ (Or.inr T2) ?_
   clear hK K
   try simp only [Act.put, sqa, sqz, sqs]
   cases RI
   ·skip
    refine wpAnyG_tk [5] (some 103) (i := 4) (v := ?vf4) rfl rfl (by kernel_rfl) (fun _ _ _ h => h) (Or.inl ⟨by rfl, ?yf4⟩) T2 ?rf4
    case yf4 => (intro V hSV; have s0 := hSV; go_simp; try with_reducible rfl)
    try simp only [Act.put, sqa, sqz, sqs]
    refine wpAnyG_one (i := 5) (by kernel_rfl) rfl (fun K hK => ?_)
    go_simp
    refine hK.out _ _ (Or.inl (by kernel_rfl)) ?_
    clear hK K
    try simp only [Act.put, sqa, sqz, sqs]
    refine wpAnyG_done (by kernel_rfl) ?_ _
    go_wp2_with fail
    go_ret
    exact ⟨rfl, B4⟩
   ·skip
    refine wpAnyG_tk [5] (some 103) (i := 4) (v := ?vt4) rfl rfl (by kernel_rfl) (fun _ _ _ h => h) (Or.inl ⟨by rfl, ?yt4⟩) T2 ?rt4
    case yt4 => (intro V hSV; have s0 := hSV; go_simp; try with_reducible rfl)
    try simp only [Act.put, sqa, sqz, sqs]
    refine wpAnyG_one (i := 5) (by kernel_rfl) rfl (fun K hK => ?_)
    go_simp
    refine hK.out _ _ (Or.inl (by kernel_rfl)) ?_
    clear hK K
    try simp only [Act.put, sqa, sqz, sqs]
    refine wpAnyG_done (by kernel_rfl) ?_ _
    go_wp2_with fail
    go_ret
    exact ⟨rfl, B4⟩
  have e1 : (p : Int) < 5 := by omega
  have HP : Hid (p < 5) := hlt
  clear hp hlt
  go_wp2_with fail
  go_loopw [7] (fun x wq => ∃ l : Nat, l ≤ n ∧ x = .int .i64 (l : Int) ∧ Below w.heap.size w wq ∧ Bk wq q (zqP cw ch n cd cr ci cb we ca node g1 c1 g2 c2 g3 c3 g4 c4 (5 * n)) 34) (fun x _ => n - (RowKit.intOf x).toNat)
  case atStart => exact ⟨0, Nat.zero_le _, rfl, B1.out, P1.out⟩
  case round =>
   clear B1 P1
   obtain ⟨l, hl, rfl, B1', P1'⟩ := hrel
   have B1 : Hid (Below w.heap.size w wr) := B1'
   have P1 : Hid (Bk wr q (zqP cw ch n cd cr ci cb we ca node g1 c1 g2 c2 g3 c3 g4 c4 (5 * n)) 34) := P1'
   clear B1' P1'
   by_cases hl2 : l < n
   case neg =>
    have e2 : ¬ (l : Int) < (n : Int) := by omega
    clear hl hl2
    go_wp2_with fail
    go_roundw
    case rel => exact ⟨p + 1, HP.out, by go_num, B1.out, P1.out⟩
    case measure =>
     have := HP.out
     simp [RowKit.intOf]
     omega
   have e2 : (l : Int) < (n : Int) := by omega
   have HLL : Hid (l < n) := hl2
   obtain ⟨z, hz⟩ : ∃ z, p * n + l = z := ⟨_, rfl⟩
   have hz5 : z < 5 * n := hz ▸ ix5 HP.out hl2
   have hz6 : (z : Int) < 5 * (n : Int) := by omega
   obtain ⟨j1, j2⟩ := ix_walk HP.out hl2 HL.out.2 hz
   obtain ⟨K, a, cap, ⟨x0, x1, x2, x3, x4, x5⟩, hK, okK, o0, hov⟩ := CX.out wr B1.out z hz5
   have hown := (CT.out wr B1.out p l z HP.out hl2 hz).2.2.2.2
   have OC9 := fun u hu => (CT.out u hu p l z HP.out hl2 hz).1
   have CT2 : Hid (∀ u, Below w.heap.size w u → (Calls Tryz.prog 35 #[.pointer (some ⟨b, 0, none⟩), .int .i64 (p : Int), .int .i64 (l : Int)] u fun e w' => e = .returned (.int .i64 (K.ws.length : Int)) ∧ Below u.heap.size u w') ∧ (Calls Tryz.prog 36 #[.pointer (some ⟨b, 0, none⟩), .int .i64 (p : Int), .int .i64 (l : Int)] u fun e w' => e = .returned (.int .i64 ((K.r : Int) - (K.ws.length : Int))) ∧ Below u.heap.size u w') ∧ (Calls Tryz.prog 28 #[.pointer (some ⟨b, 0, none⟩), .int .i64 (p : Int), .int .i64 (l : Int)] u fun e w' => e = .returned (.int .i64 K.ph) ∧ Below u.heap.size u w')) := show _ from fun u hu => by
    obtain ⟨-, t1, t2, t3, -⟩ := CT.out u hu p l z HP.out hl2 hz
    rw [hK] at t1 t2 t3
    exact ⟨t1, t2, t3⟩
   have hrm : IntKind.i64.wrap ((K.r : Int) - (K.ws.length : Int)) = (K.r : Int) - (K.ws.length : Int) := by
    have h1 := okK.wl
    have h2 := okK.r64
    exact IntWalk.i64_in _ (by omega)
   obtain ⟨oz, hoz⟩ : ∃ oz, own.getD z 0 = oz := ⟨_, rfl⟩
   rw [hoz] at o0 hov hown
   generalize owS (p : Int) (l : Int) = OW at *
   have y10 : wr.cell? ⟨q, 10, none⟩ = some (.slice (some ⟨g1, 0, none⟩) (5 * n) c1) := (P1.out.cell 10).trans rfl
   have y11 : wr.cell? ⟨q, 11, none⟩ = some (.slice (some ⟨g2, 0, none⟩) (5 * n) c2) := (P1.out.cell 11).trans rfl
   have HO0 : Hid (∀ u, Below wr.heap.size wr u → u.cell? ⟨g2, z, none⟩ = some (.int .i64 oz)) := show _ from fun u hu => by
    obtain ⟨K9, a9, cap9, -, -, -, o9, -⟩ := CX.out u (B1.out.trans (hu.mono B1.out.size)) z hz5
    rw [hoz] at o9
    exact o9
   have HY11 : Hid (∀ u, Below wr.heap.size wr u → u.cell? ⟨q, 11, none⟩ = some (.slice (some ⟨g2, 0, none⟩) (5 * n) c2)) := show _ from fun u hu => ((P1.out.next hu).cell 11).trans rfl
   have HOV : Hid (oz < ((5 * n : Nat) : Int)) := hov
   have HOW : Hid (OW = if 0 ≤ oz then (oz.toNat / n, oz.toNat % n, true) else (0, 0, false)) := hown
   have HHH : Hid (z < 5 * n ∧ KOk K ∧ w.heap.size ≤ wr.heap.size) := show _ ∧ _ ∧ _ from ⟨hz5, okK, B1.out.size⟩
   clear hl hl2 hz hz5 hK okK o0 hov hown hoz CX CT
   obtain ⟨oa, ob, oi⟩ := OW
   have OC5 : Hid (∀ u, Below w.heap.size w u → Calls Tryz.prog 27 #[.pointer (some ⟨b, 0, none⟩), .int .i64 (p : Int), .int .i64 (l : Int)] u fun e w' => e = .returned (.tuple #[.int .i64 (oa : Int), .int .i64 (ob : Int), .bool oi]) ∧ Below u.heap.size u w') := show _ from OC9
   clear OC9
   go_upto_region 9 with (refine wpList_store_bk rfl 100 (.tmp 8) (.tmp 33) rfl wr.heap.size (zq2 (K.r : Int) K.ph K.port K.lane a K.ws.length cap K.cp) rfl rfl (Bk.new _ _ _) (by kernel_rfl) rfl rfl ?_; intro w5 s5 o5)
   have D5 : Hid (Below wr.heap.size wr w5) := below_new o5
   have F5 : Hid (Bk w5 wr.heap.size (zq2 (K.r : Int) K.ph K.port K.lane a K.ws.length cap K.cp) 100) := s5
   clear s5 o5 x0 x1 x2 x3 x4 x5 y10
   have lbx := F5.out.lt
   have HLB : Hid (wr.heap.size < w5.heap.size) := lbx
   clear lbx
   go_upto_region 11 with (go_at_call 27; with_reducible refine (OC5.out _ (B1.out.trans (D5.out.mono HHH.out.2.2))).mono ?_; rintro e w6 ⟨rfl, b6⟩; have D6 := D5.out.trans (b6.mono D5.out.size); have o1 := HO0.out _ D6; have y11 := HY11.out _ D6)
   have F6 : Hid (Bk w6 wr.heap.size (zq2 (K.r : Int) K.ph K.port K.lane a K.ws.length cap K.cp) 100) := F5.out.next b6
   have B6 : Hid (Below w.heap.size w w6) := B1.out.trans (D6.mono HHH.out.2.2)
   have P6 : Hid (Bk w6 q (zqP cw ch n cd cr ci cb we ca node g1 c1 g2 c2 g3 c3 g4 c4 (5 * n)) 34) := P1.out.next D6
   clear o1 y11 D6 F5 D5 b6 OC5 HO0 HY11 B1 P1 HLB
   generalize wr.heap.size = lb at *
   have hlb := F6.out.lt
   have l0 : ∀ g : Gw w6, g.v.cell? ⟨lb, 0, none⟩ = some (.int .i64 (K.r : Int)) := fun g => g.cell hlb ((F6.out.cell 0).trans rfl)
   have l1 : ∀ g : Gw w6, g.v.cell? ⟨lb, 1, none⟩ = some (.int .i64 K.ph) := fun g => g.cell hlb ((F6.out.cell 1).trans rfl)
   have l4 : ∀ g : Gw w6, g.v.cell? ⟨lb, 4, none⟩ = some (.slice a K.ws.length cap) := fun g => g.cell hlb ((F6.out.cell 4).trans rfl)
   have q1 := fun g : Gw w6 => (CT2.out g.v (B6.out.trans (g.le.mono B6.out.size))).1
   have q2 := fun g : Gw w6 => (CT2.out g.v (B6.out.trans (g.le.mono B6.out.size))).2.1
   have q3 := fun g : Gw w6 => (CT2.out g.v (B6.out.trans (g.le.mono B6.out.size))).2.2
   generalize hrr : (K.r : Int) - (K.ws.length : Int) = rr at *
   have HRR : Hid ((K.r : Int) - (K.ws.length : Int) = rr) := hrr
   generalize K.ph = ph at *
   generalize K.ws.length = wl at *
   have HKR : Hid True := trivial
   clear CT2 hlb
   by_cases h0 : 0 ≤ oz
   ·obtain ⟨x, rfl⟩ : ∃ x : Nat, oz = (x : Int) := ⟨oz.toNat, by omega⟩
    have h9 := HOW.out
    rw [if_pos h0, Int.toNat_natCast] at h9
    obtain ⟨rfl, rfl, rfl⟩ : oa = x / n ∧ ob = x % n ∧ oi = true := by simpa using h9
    have e3 : (((x / n : Nat) : Int) * (n : Int)) + ((x % n : Nat) : Int) = (x : Int) := by
     have := Nat.div_add_mod x n
     rw [Nat.mul_comm] at this
     omega
    generalize x / n = kq at *
    generalize x % n = kr at *
    have hx : (x : Int) < 5 * 8 := by have := HOV.out; have := HL.out.2; omega
    have hm : (0 : Int) ≤ (kq : Int) * (n : Int) := Int.mul_nonneg (Int.natCast_nonneg _) (Int.natCast_nonneg _)
    obtain ⟨m, hm9⟩ : ∃ m, (kq : Int) * (n : Int) = m := ⟨_, rfl⟩
    rw [hm9] at hm e3
    have w1 : IntKind.i64.wrap m = m := IntWalk.i64_in _ (by omega)
    have w2 : IntKind.i64.wrap (m + (kr : Int)) = (x : Int) := by rw [e3]; exact IntWalk.i64_in _ (by omega)
    have d0 : decide ((0 : Int) ≤ (x : Int)) = true := decide_eq_true h0
    clear h9 e3 hx hm HOW HOV
    refine region_gw (by kernel_rfl) (by kernel_rfl) ?_
    repeat (first | go_big_quiet_skip | quiet_step (first | (go_at_call 35; exact quiet_below (q1 _)) | (go_at_call 36; exact quiet_below (q2 _)) | (go_at_call 28; exact quiet_below (q3 _))))
    refine wpQuiet_nil ?_
    intro u4 hw'
    obtain ⟨⟨u5, hb4⟩, hw''⟩ := hw'
    obtain rfl : u4 = u5 := hw''
    have B7 : Hid (Below w.heap.size w u4) := B6.out.trans (hb4.mono B6.out.size)
    have P7 : Hid (Bk u4 q (zqP cw ch n cd cr ci cb we ca node g1 c1 g2 c2 g3 c3 g4 c4 (5 * n)) 34) := P6.out.next hb4
    clear hb4 B6 P6 F6 q1 q2 q3 l0 l1 l4 y11
    have e3 := wrap_next HLL.out (Nat.le_trans HL.out.2 (by decide))
    go_wp2_with fail
    go_roundw
    case rel => exact ⟨l + 1, HLL.out, by go_num, B7.out, P7.out⟩
    case measure =>
     have := HLL.out
     simp [RowKit.intOf]
     omega
   ·have h9 := HOW.out
    rw [if_neg h0] at h9
    obtain ⟨rfl, rfl, rfl⟩ : oa = 0 ∧ ob = 0 ∧ oi = false := by simpa using h9
    have d0 : decide ((0 : Int) ≤ oz) = false := decide_eq_false h0
    clear h9 HOW HOV
    refine region_gw (by kernel_rfl) (by kernel_rfl) ?_
    repeat (first | go_big_quiet_skip | quiet_step (first | (go_at_call 35; exact quiet_below (q1 _)) | (go_at_call 36; exact quiet_below (q2 _)) | (go_at_call 28; exact quiet_below (q3 _))))
    refine wpQuiet_nil ?_
    intro u4 hw'
    obtain ⟨⟨u5, hb4⟩, hw''⟩ := hw'
    obtain rfl : u4 = u5 := hw''
    have B7 : Hid (Below w.heap.size w u4) := B6.out.trans (hb4.mono B6.out.size)
    have P7 : Hid (Bk u4 q (zqP cw ch n cd cr ci cb we ca node g1 c1 g2 c2 g3 c3 g4 c4 (5 * n)) 34) := P6.out.next hb4
    clear hb4 B6 P6 F6 q1 q2 q3 l0 l1 l4 y11
    have e3 := wrap_next HLL.out (Nat.le_trans HL.out.2 (by decide))
    go_wp2_with fail
    go_roundw
    case rel => exact ⟨l + 1, HLL.out, by go_num, B7.out, P7.out⟩
    case measure =>
     have := HLL.out
     simp [RowKit.intOf]
     omega
end Go.Proofs.YtmmegmonmilkcaaGreatDoor
