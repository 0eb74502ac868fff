/-
 The program's router: Owner, Idle. (Written by gen_rown.py.)
-/
import Derived.Test.YtmmegmonmilkcaaGreatDoorRtGive
namespace Go.Proofs.YtmmegmonmilkcaaGreatDoor
open Go.RowKit
section
variable {w : World} {b : Nat} {c : G.Cf} {S : RS} {F : Nat → Prop}
theorem o3_cells (n : Nat) (x : Int) : ∃ (p q : Nat) (r : Bool), o3 n x = [.int .i64 (p : Int), .int .i64 (q : Int), .bool r] ∧ ((p, q, r) : Nat × Nat × Bool) = if 0 ≤ x then (x.toNat / n, x.toNat % n, true) else (0, 0, false) := by
 unfold o3
 split
 ·exact ⟨_, _, _, rfl, rfl⟩
 ·exact ⟨0, 0, false, rfl, rfl⟩
set_option maxRecDepth 100000 in
theorem router_owner (h : Rt w b c S F) (p l : Int) : Calls Tryz.prog 27 #[.pointer (some ⟨b, 0, none⟩), .int .i64 p, .int .i64 l] w fun e w' => e = .returned (.tuple #[.int .i64 ((ownerRt S p l).1 : Int), .int .i64 ((ownerRt S p l).2.1 : Int), .bool (ownerRt S p l).2.2]) ∧ Below w.heap.size w w' := by
 obtain ⟨ok, hc, hn, Y, h, rfl⟩ := h
 have HC := has_any h ok.n8 p l
 by_cases hin : inRt S p l = true
 ·rw [hin] at HC
  obtain ⟨P, L, rfl, rfl, hP, hL, hix⟩ := in_nat hin
  obtain ⟨x, y, z, e3, e4⟩ := o3_cells S.n (S.own.getD (P * S.n + L) 0)
  have e5 : ownerRt S (P : Int) (L : Int) = (x, y, z) := by
   rw [e4]
   unfold ownerRt
   rw [hix]
   by_cases h0 : 0 ≤ S.own.getD (P * S.n + L) 0
   ·rw [if_pos ⟨hin, h0⟩, if_pos h0]
   ·rw [if_neg (fun c => h0 c.2), if_neg h0]
  rw [e5]
  have hP5 : (P : Int) < 5 := by omega
  have hP0 : (0 : Int) ≤ (P : Int) := by omega
  have hL0 : (0 : Int) ≤ (L : Int) := by omega
  have hLn : (L : Int) < (S.n : Int) := by omega
  have CL : Hid (∀ v, Below w.heap.size w v → v.cell? ⟨b, 10 + P * 4 + 1, none⟩ = some (.slice (some ⟨Y.ob P, 0, none⟩) S.n S.n) ∧ v.cell? ⟨Y.ob P, L * 3, none⟩ = some (.int .i64 (x : Int)) ∧ v.cell? ⟨Y.ob P, L * 3 + 1, none⟩ = some (.int .i64 (y : Int)) ∧ v.cell? ⟨Y.ob P, L * 3 + 2, none⟩ = some (.bool z)) := show _ from fun v hv => by
   have hw := ((h.next hv).at_.ow P hP)
   refine ⟨((h.next hv).port hP).2.1, (hw.cells hL 0 (by decide)).trans (by rw [e3]; rfl), (hw.cells hL 1 (by decide)).trans (by rw [e3]; rfl), (hw.cells hL 2 (by decide)).trans (by rw [e3]; rfl)⟩
  clear e3 e4 e5 hix hin h hn hc ok
  generalize S.n = n at *
  generalize (x : Int) = X at *
  generalize (y : Int) = Z at *
  generalize Y.ob P = ob at *
  go_enter Tryz.func27, Tryz.ntmps27
  go_wp2_with fail
  go_at_call 52
  with_reducible refine HC.mono ?_
  rintro e w1 ⟨rfl, b1⟩
  have B1 : Hid (Below w.heap.size w w1) := b1
  obtain ⟨c0, c1, c2, c3⟩ := CL.out w1 b1
  clear HC CL b1
  go_wp2_with fail
  have N2 : Hid (Bk (w1.alloc (.cells #[.int .i64 X, .int .i64 Z, .bool z] 131)) w1.heap.size #[.int .i64 X, .int .i64 Z, .bool z] 131) := Bk.new _ _ _
  have B2 : Hid (Below w.heap.size w (w1.alloc (.cells #[.int .i64 X, .int .i64 Z, .bool z] 131))) := B1.out.alloc B1.out.size _
  generalize w1.alloc (.cells #[.int .i64 X, .int .i64 Z, .bool z] 131) = v at *
  generalize w1.heap.size = kb at *
  have d0 := (N2.out.cell 0).trans rfl
  have d1 := (N2.out.cell 1).trans rfl
  have d2 := (N2.out.cell 2).trans rfl
  clear c0 c1 c2 c3 N2 B1
  go_quiet (fail)
  go_wp2
  exact bodyPost_ret (v := .tuple #[.int .i64 X, .int .i64 Z, .bool z]) (by simp [results, Tryz.results27, go_sem]) rfl ⟨rfl, dn B2.out _⟩
 ·have e5 : ownerRt S p l = (0, 0, false) := by
   unfold ownerRt
   rw [if_neg (fun c => hin c.1)]
  rw [e5]
  rw [show inRt S p l = false by simpa using hin] at HC
  clear e5 hin h hn hc ok
  go_enter Tryz.func27, Tryz.ntmps27
  go_wp2_with fail
  go_at_call 52
  with_reducible refine HC.mono ?_
  rintro e w1 ⟨rfl, b1⟩
  have B1 : Hid (Below w.heap.size w w1) := b1
  clear HC b1
  go_wp2
  exact bodyPost_ret (v := .tuple #[.int .i64 0, .int .i64 0, .bool false]) (by simp [results, Tryz.results27, go_sem]) rfl ⟨rfl, B1.out⟩
theorem wpList_load_many {P : Program} {ops : Array Oper} {rest : List Oper} {o : Oper} {a : Act} {w : World} {Q : Exit → Act → World → Prop} (hgd : o.guard = none) (ty : TypeId) (x : Operand) (ho : o.op = .load ty x)
  (a0 : Addr) (hx : a.eval x = .pointer (some a0)) (cs : List Value) (d : TypeDesc) (hc : ∀ j v, cs[j]? = some v → w.cell? (a0.add j) = some v)
  (hu : P.underlying ty = some d) (hd : (match d with | .struct _ | .array _ _ => true | _ => false) = true) (hi : (P.info? ty).map (·.size) = some cs.length)
  (h : wpList P ops Q rest (a.put o.dst (.agg cs.toArray)) w) : wpList P ops Q (o :: rest) a w := by
 refine wpList_plain hgd fun K hK => ?_
 have hl : (loadCells a0 cs.length).run P w = .ok cs.toArray w := run_loadCells_list (P := P) w a0 cs hc
 have hr : (loadVar ty a0).run P w = .ok (.agg cs.toArray) w := by
  cases hq : P.info? ty with
  | none => simp [hq] at hi
  | some i =>
   have hs : i.size = cs.length := by simpa [hq] using hi
   have hagg : (isAgg ty).run P w = .ok true w := by
    unfold isAgg
    rw [Sem.run_bind, run_underlying hu w]
    cases d <;> simp_all
   simp [loadVar, Sem.run_bind, hagg, sizeOf, typeInfo, hq, hs, hl]
 unfold Oper.wp execOp
 simp only [ho, hx, Instr.loadAt, Instr.sureAddr, Sem.run_bind, Sem.run_pure, Result.andThen_ok, hr]
 exact hK _ _ h
def pcs (Y : Lay) (n : Nat) : List Value := ptc Y n 0 ++ (ptc Y n 1 ++ (ptc Y n 2 ++ (ptc Y n 3 ++ ptc Y n 4)))
theorem pcs_at (c : G.Cf) (node : Int) (Y : Lay) (n j : Nat) : (rtc c node Y n)[10 + j]? = (pcs Y n)[j]? := by
 unfold rtc pcs
 rw [List.getElem?_toArray, show 10 + j = j + 10 by omega]
 rfl
theorem pcs_part (Y : Lay) (n : Nat) {p : Nat} (hp : p < 5) : (pcs Y n).toArray.extract (p * 4) (p * 4 + 4) = (zq6 (some ⟨Y.lb p, 0, none⟩) n (Y.lc p) (some ⟨Y.ob p, 0, none⟩) n n (some ⟨Y.gb p, 0, none⟩) (some ⟨Y.mb p, 0, none⟩)) := by
 match p, hp with
 | 0, _ => rfl
 | 1, _ => rfl
 | 2, _ => rfl
 | 3, _ => rfl
 | 4, _ => rfl
theorem run_idx_port (Y : Lay) (n : Nat) {p : Nat} (hp : p < 5) (w : World) : (Instr.index 95 (.agg (pcs Y n).toArray) (.int .i64 (p : Int))).run Tryz.prog w = .ok (.agg (zq6 (some ⟨Y.lb p, 0, none⟩) n (Y.lc p) (some ⟨Y.ob p, 0, none⟩) n n (some ⟨Y.gb p, 0, none⟩) (some ⟨Y.mb p, 0, none⟩))) w := by
 rw [← pcs_part Y n hp]
 have h1 : (0 : Int) ≤ (p : Int) ∧ (p : Int) < 5 := by omega
 have hu := Tryz.underlying95
 have hv := Tryz.underlying94
 have hw : IntKind.i64.wrap (p : Int) = (p : Int) := IntWalk.i64_in _ (by omega)
 have hi : (Tryz.prog.info? 94).map (·.size) = some 4 := by kernel_rfl
 cases hq : Tryz.prog.info? 94 with
 | none => simp [hq] at hi
 | some i =>
  have hs : i.size = 4 := by simpa [hq] using hi
  simp [Instr.index, run_underlying hu, asIntOf, h1, hp, part, isAgg, run_underlying hv, sizeOf, typeInfo, hq, hs]
def idK (K : KS) : Bool := decide (K.ws = []) && decide (K.ph = 0)
theorem idle_all {S : RS} (hl : S.ins.length = 5 * S.n) (h : ∀ k, k < 5 * S.n → idK (S.ins.getD k zks) = true) : idleRt S = true := by
 unfold idleRt
 rw [List.all_eq_true]
 intro K hK
 obtain ⟨k, hk, rfl⟩ := List.getElem_of_mem hK
 have := h k (by omega)
 rw [List.getD_eq_getElem?_getD, List.getElem?_eq_getElem hk] at this
 exact this
theorem idle_not {S : RS} (hl : S.ins.length = 5 * S.n) {k : Nat} (hk : k < 5 * S.n) (h : idK (S.ins.getD k zks) = false) : idleRt S = false := by
 rw [Bool.eq_false_iff]
 intro c
 unfold idleRt at c
 rw [List.all_eq_true] at c
 have h1 : k < S.ins.length := by omega
 have := c (S.ins.getD k zks) (by rw [List.getD_eq_getElem?_getD, List.getElem?_eq_getElem h1]; exact List.getElem_mem _)
 have h2 : idK (S.ins.getD k zks) = true := this
 rw [h2] at h
 cases h
set_option maxRecDepth 100000 in
set_option maxHeartbeats 4000000 in
theorem router_idle (h : Rt w b c S F) : Calls Tryz.prog 32 #[.pointer (some ⟨b, 0, none⟩)] w fun e w' => e = .returned (.bool (idleRt S)) ∧ Below w.heap.size w w' := by
 obtain ⟨ok, hc, hn, Y, h, rfl⟩ := h
 have hcs : ∀ j v, (pcs Y S.n)[j]? = some v → w.cell? ((⟨b, 10, none⟩ : Addr).add j) = some v := fun j v hv => by
  rw [WideShapes.add_plain, h.blk.cell, pcs_at]
  exact hv
 have hIX := fun (p : Nat) (hp : p < 5) (v : World) => run_idx_port Y S.n hp v
 have HIX : Hid _ := hIX
 have hlen : (pcs Y S.n).length = 20 := rfl
 have HK : Hid _ := h
 have OK : Hid (ROk S) := ok
 have hn8 := ok.n8
 have hn1 := ok.n1
 have IA : Hid ((∀ k, k < 5 * S.n → idK (S.ins.getD k zks) = true) → idleRt S = true) := show _ from idle_all ok.il
 have IN : Hid (∀ k, k < 5 * S.n → idK (S.ins.getD k zks) = false → idleRt S = false) := show _ from fun k hk => idle_not ok.il hk
 clear h hc hn ok hIX
 obtain ⟨L, hL⟩ : ∃ L, pcs Y S.n = L := ⟨_, rfl⟩
 rw [hL] at hcs hlen HIX
 clear hL
 obtain ⟨R, hR⟩ : ∃ R, idleRt S = R := ⟨_, rfl⟩
 rw [hR] at IA IN ⊢
 clear hR
 go_enter Tryz.func32, Tryz.ntmps32
 go_wp2_with (refine wpList_load_many rfl 95 _ rfl ⟨b, 10, none⟩ rfl L _ hcs Tryz.underlying95 rfl (by rw [hlen]; kernel_rfl) ?_)
 clear hcs hlen
 obtain ⟨n, hn⟩ : ∃ n, S.n = n := ⟨_, rfl⟩
 have HN : Hid (S.n = n) := hn
 rw [hn] at hn8 hn1 IA IN HIX
 clear hn
 go_loopw [13] (fun x wr => ∃ p : Nat, p ≤ 5 ∧ x = .int .i64 p ∧ Below w.heap.size w wr ∧ ∀ k, k < p * n → idK (S.ins.getD k zks) = true) (fun x _ => 5 - (RowKit.intOf x).toNat)
 case atStart => exact ⟨0, Nat.zero_le _, rfl, Below.refl _ _, fun k hk => by omega⟩
 case round =>
  obtain ⟨p, hp, rfl, hB, hI⟩ := hrel
  have HB : Hid (Below w.heap.size w wr) := hB
  have HI : Hid (∀ k, k < p * n → idK (S.ins.getD k zks) = true) := hI
  clear hB hI
  by_cases hp5 : p < 5
  case neg =>
   have e1 : ¬ (p : Int) < 5 := by omega
   obtain rfl : p = 5 := by omega
   have eR := IA.out HI.out
   go_wp2
   go_ret
   exact ⟨rfl, HB.out⟩
  have e1 : (p : Int) < 5 := by omega
  have e2 : (0 : Int) ≤ (p : Int) := by omega
  have hix := HIX.out p hp5
  go_upto_region 6 with fail
  have N5 : Hid (Bk (wr.alloc (.cells (zq6 (some ⟨Y.lb p, 0, none⟩) n (Y.lc p) (some ⟨Y.ob p, 0, none⟩) n n (some ⟨Y.gb p, 0, none⟩) (some ⟨Y.mb p, 0, none⟩)) 94)) wr.heap.size (zq6 (some ⟨Y.lb p, 0, none⟩) n (Y.lc p) (some ⟨Y.ob p, 0, none⟩) n n (some ⟨Y.gb p, 0, none⟩) (some ⟨Y.mb p, 0, none⟩)) 94) := Bk.new _ _ _
  have B5 : Hid (Below w.heap.size w (wr.alloc (.cells (zq6 (some ⟨Y.lb p, 0, none⟩) n (Y.lc p) (some ⟨Y.ob p, 0, none⟩) n n (some ⟨Y.gb p, 0, none⟩) (some ⟨Y.mb p, 0, none⟩)) 94))) := HB.out.alloc HB.out.size _
  generalize wr.alloc (.cells (zq6 (some ⟨Y.lb p, 0, none⟩) n (Y.lc p) (some ⟨Y.ob p, 0, none⟩) n n (some ⟨Y.gb p, 0, none⟩) (some ⟨Y.mb p, 0, none⟩)) 94) = v5 at *
  generalize wr.heap.size = kb5 at *
  have c5 := (N5.out.cell 0).trans rfl
  clear hix N5
  go_wp2_with fail
  go_loopw [19] (fun x wq => ∃ l : Nat, l ≤ n ∧ x = .int .i64 l ∧ Below w.heap.size w wq ∧ ∀ k, k < p * n + l → idK (S.ins.getD k zks) = true) (fun x _ => n - (RowKit.intOf x).toNat)
  case atStart => exact ⟨0, Nat.zero_le _, rfl, B5.out, fun k hk => HI.out k (by omega)⟩
  case round =>
   obtain ⟨l, hl, rfl, hB, hI2⟩ := hrel
   have HB2 : Hid (Below w.heap.size w wr) := hB
   have HI2 : Hid (∀ k, k < p * n + l → idK (S.ins.getD k zks) = true) := hI2
   clear hB hI2
   by_cases hl2 : l < n
   case neg =>
    have e3 : ¬ (l : Int) < (n : Int) := by omega
    obtain rfl : l = n := by omega
    go_wp2
    go_roundw
    case rel => exact ⟨p + 1, by omega, by go_num, HB2.out, fun k hk => HI2.out k (by rw [Nat.add_mul, Nat.one_mul] at hk; exact hk)⟩
    case measure => simp [RowKit.intOf]; omega
   have e3 : (l : Int) < (n : Int) := by omega
   have e4 : (0 : Int) ≤ (l : Int) := by omega
   have hk5 : p * n + l < 5 * n := ix_lt' hp5 hl2
   have HW := HK.out.next HB2.out
   have c6 := (HW.at_.lr p hp5).1.cell (l := l) (by rw [HN.out]; exact hl2)
   rw [HN.out] at c6
   have KN := HW.at_.kn (p * n + l) (by rw [HN.out]; exact hk5)
   have KO := KN.ok
   have LC := lane_len KN
   have PC : Hid (∀ v, Below wr.heap.size wr v → Calls Tryz.prog 59 #[.pointer (some ⟨Y.kb (p * n + l), 0, none⟩)] v fun e w' => e = .returned (.int .i64 (S.ins.getD (p * n + l) zks).ph) ∧ Below v.heap.size v w') := show _ from fun v hv => lane_phase ((HW.next hv).at_.kn (p * n + l) (by rw [HN.out]; exact hk5))
   have IN3 : Hid (idK (S.ins.getD (p * n + l) zks) = false → R = false) := show _ from IN.out _ hk5
   have II3 : Hid (idK (S.ins.getD (p * n + l) zks) = true → ∀ k, k < p * n + (l + 1) → idK (S.ins.getD k zks) = true) := show _ from fun hh k hk => by
    rcases (by omega : k < p * n + l ∨ k = p * n + l) with h1 | h1
    ·exact HI2.out k h1
    ·rw [h1]; exact hh
   clear HW KN HI2 HI hk5
   obtain ⟨K, hK⟩ : ∃ K, S.ins.getD (p * n + l) zks = K := ⟨_, rfl⟩
   rw [hK] at KO LC PC IN3 II3
   clear hK
   generalize Y.kb (p * n + l) = kb at *
   have HZ : Hid (w.heap.size ≤ wr.heap.size) := HB2.out.size
   by_cases hw : K.ws = []
   case neg =>
    have hpos : (0 : Int) < (K.ws.length : Int) := by
     have := List.length_pos_iff.2 hw
     omega
    have eR := IN3.out (by unfold idK; rw [decide_eq_false hw]; rfl)
    generalize (K.ws.length : Int) = X at *
    clear IN3 II3 PC KO hw
    go_wp2_with fail
    go_at_call 76
    with_reducible refine LC.mono ?_
    rintro e w1 ⟨rfl, b1⟩
    have B1 : Hid (Below w.heap.size w w1) := HB2.out.trans (b1.mono HZ.out)
    clear LC b1
    go_wp2
    go_ret
    exact ⟨by simp [eR], B1.out⟩
   rw [hw] at LC
   simp only [List.length_nil, Int.ofNat_zero] at LC
   by_cases hph : K.ph = 0
   ·have hii := II3.out (by unfold idK; rw [decide_eq_true hw, decide_eq_true hph]; rfl)
    have HII : Hid (∀ k, k < p * n + (l + 1) → idK (S.ins.getD k zks) = true) := hii
    rw [hph] at PC
    clear IN3 II3 KO hw hph hii
    go_wp2_with fail
    go_at_call 76
    with_reducible refine LC.mono ?_
    rintro e w1 ⟨rfl, b1⟩
    have B1 : Hid (Below w.heap.size w w1) := HB2.out.trans (b1.mono HZ.out)
    have PC1 := PC.out w1 b1
    clear LC b1 PC
    go_wp2_with fail
    go_at_call 59
    with_reducible refine PC1.mono ?_
    rintro e w2 ⟨rfl, b2⟩
    have B2 : Hid (Below w.heap.size w w2) := B1.out.trans (b2.mono B1.out.size)
    clear PC1 b2
    go_wp2
    go_roundw
    case rel => exact ⟨l + 1, by omega, by go_num, B2.out, HII.out⟩
    case measure => simp [RowKit.intOf]; omega
   ·have hpos : (0 : Int) < K.ph := by
     rcases KO.ph with h | h | h
     ·exact absurd h hph
     ·omega
     ·omega
    have eR := IN3.out (by unfold idK; rw [decide_eq_false hph, Bool.and_false])
    generalize K.ph = X at *
    clear IN3 II3 KO hw hph
    go_wp2_with fail
    go_at_call 76
    with_reducible refine LC.mono ?_
    rintro e w1 ⟨rfl, b1⟩
    have B1 : Hid (Below w.heap.size w w1) := HB2.out.trans (b1.mono HZ.out)
    have PC1 := PC.out w1 b1
    clear LC b1 PC
    go_wp2_with fail
    go_at_call 59
    with_reducible refine PC1.mono ?_
    rintro e w2 ⟨rfl, b2⟩
    have B2 : Hid (Below w.heap.size w w2) := B1.out.trans (b2.mono B1.out.size)
    clear PC1 b2
    go_wp2
    go_ret
    exact ⟨by simp [eR], B2.out⟩
end
end Go.Proofs.YtmmegmonmilkcaaGreatDoor
