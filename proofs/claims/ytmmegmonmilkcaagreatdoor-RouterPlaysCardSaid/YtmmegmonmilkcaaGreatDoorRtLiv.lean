/-
 A parcel alone in a router is given a lane; the document's example (plain mathematics).
-/
import Derived.Test.YtmmegmonmilkcaaGreatDoorRtObj
namespace Go.Proofs.YtmmegmonmilkcaaGreatDoor
theorem hd_cast {P : Pc} (F : Fine P) {i : Nat} (hi : i < P.hs.length) : (readR (P.ws.getD i 0)).1.c = P.c := by
 rw [ws_head hi, readR_word (hd_right F.ok hi)]
 rfl
theorem rep_neg (n q : Nat) (h : q < n) : (List.replicate n (-1 : Int)).getD q 0 = -1 := by
 rw [List.getD_eq_getElem?_getD, List.getElem?_replicate, if_pos h]
 rfl
section
variable {n d : Nat} {node : Int} {k : Nat} {K : KS} {mv : List Nat}
theorem lone_give (hk : k < 5 * n) {p l : Int} (hi : inRt (loneR n d node k K (List.replicate (5 * n) (-1)) (List.replicate 5 0) mv) p l = true) (hx : ixRt (loneR n d node k K (List.replicate (5 * n) (-1)) (List.replicate 5 0) mv) p l = k) (h1 : K.ph = 1)
  {q : Nat} (hq : K.port = (q : Int)) (hq5 : q < 5) {C : Nat → Nat × Nat} (h0 : (C l.toNat).1 = 0) (hm : 1 ≤ (C l.toNat).2) :
  giveRt C (loneR n d node k K (List.replicate (5 * n) (-1)) (List.replicate 5 0) mv) p l = (loneR n d node k (giveK K 0).1 ((List.replicate (5 * n) (-1)).set (q * n) (k : Int)) ((List.replicate 5 0).set q 1) mv, true) := by
 have hn : 0 < n := by omega
 have hg : (List.replicate 5 0).getD q 0 = 0 := rep_zero 5 q
 have ha : ask n 0 (freeRt (loneR n d node k K (List.replicate (5 * n) (-1)) (List.replicate 5 0) mv) q (C l.toNat).1 (C l.toNat).2) = (0, true) := by
  have := ask_hit (N := n) (l := 0) (W := freeRt (loneR n d node k K (List.replicate (5 * n) (-1)) (List.replicate 5 0) mv) q (C l.toNat).1 (C l.toNat).2) (i := 0) hn (by
   rw [Nat.zero_add, Nat.zero_mod, freeRt_iff]
   refine ⟨by omega, ?_⟩
   show (List.replicate (5 * n) (-1 : Int)).getD (q * n + 0) 0 < 0
   rw [rep_neg _ _ (by have : q * n + n ≤ 5 * n := (by rw [← Nat.succ_mul]; exact Nat.mul_le_mul_right _ hq5); omega)]
   decide) (fun j hj => absurd hj (Nat.not_lt_zero _))
  rw [this, Nat.zero_add, Nat.zero_mod]
 unfold giveRt
 rw [if_pos hi, hx, lone_at hk k hk, if_pos rfl, if_pos h1, lone_set]
 have hqn : K.port.toNat = q := by omega
 rw [hqn]
 have hask : ask (loneR n d node k K (List.replicate (5 * n) (-1)) (List.replicate 5 0) mv).n ((loneR n d node k K (List.replicate (5 * n) (-1)) (List.replicate 5 0) mv).gv.getD q 0) (freeRt (loneR n d node k K (List.replicate (5 * n) (-1)) (List.replicate 5 0) mv) q (C l.toNat).1 (C l.toNat).2) = (0, true) := by
  show ask n ((List.replicate 5 0).getD q 0) _ = _
  rw [hg]
  exact ha
 have hnx : nxtl (loneR n d node k K (List.replicate (5 * n) (-1)) (List.replicate 5 0) mv).n ((loneR n d node k K (List.replicate (5 * n) (-1)) (List.replicate 5 0) mv).gv.getD q 0) (freeRt (loneR n d node k K (List.replicate (5 * n) (-1)) (List.replicate 5 0) mv) q (C l.toNat).1 (C l.toNat).2) = 1 := by
  unfold nxtl
  rw [hask]
  rfl
 rw [hask, hnx, if_pos rfl, Nat.add_zero]
 rfl
theorem lone_owner {own : List Int} {gv : List Nat} (_hk : k < 5 * n) {q : Nat} (hq5 : q < 5) (ho : own = (List.replicate (5 * n) (-1)).set (q * n) (k : Int)) {p : Nat} (hp : p < 5) (hn : 0 < n) :
  ownerRt (loneR n d node k K own gv mv) (p : Int) 0 = if p = q then (k / n, k % n, true) else (0, 0, false) := by
 have hin : inRt (loneR n d node k K own gv mv) (p : Int) 0 = true := by
  rw [lone_in, decide_eq_true_eq]
  omega
 have hix : ixRt (loneR n d node k K own gv mv) (p : Int) 0 = p * n := by
  show (p : Int).toNat * n + (0 : Int).toNat = p * n
  simp
 have hpl : ∀ x : Nat, x < 5 → x * n < 5 * n := fun x hx => Nat.mul_lt_mul_of_pos_right hx hn
 have hown : own.getD (p * n) 0 = if p = q then (k : Int) else -1 := by
  rw [ho, getDset _ _ _ _ _ (by rw [List.length_replicate]; exact hpl q hq5), rep_neg _ _ (hpl p hp)]
  by_cases e : p = q
  ·rw [if_pos (by rw [e]), if_pos e]
  ·rw [if_neg (fun c => e (Nat.eq_of_mul_eq_mul_right hn c)), if_neg e]
 unfold ownerRt
 rw [hix]
 show (if inRt _ _ _ = true ∧ 0 ≤ own.getD (p * n) 0 then ((own.getD (p * n) 0).toNat / n, (own.getD (p * n) 0).toNat % n, true) else (0, 0, false)) = _
 rw [hin, hown]
 by_cases e : p = q
 ·rw [if_pos e, if_pos e, if_pos ⟨rfl, by omega⟩]
  simp
 ·rw [if_neg e, if_neg e, if_neg (fun c => by have := c.2; omega)]
theorem lone_idle {own : List Int} {gv : List Nat} (_hk : k < 5 * n) (hw : K.ws = []) (hp : K.ph = 0) : idleRt (loneR n d node k K own gv mv) = true := by
 unfold idleRt
 rw [List.all_eq_true]
 intro x hx
 rcases set_mem (show x ∈ (List.replicate (5 * n) (newK (d : Int))).set k K from hx) with h | rfl
 ·obtain rfl := List.eq_of_mem_replicate h
  rfl
 ·rw [hw, hp]
  rfl
end
def p1 : Pc := ⟨0, false, [(1, 0)], ⟨#[97]⟩⟩
theorem p1_fine : Fine p1 := ⟨by decide +kernel, by decide, by decide, by decide⟩
def c1 : G.Cf := ⟨2, 1, 1, 2, 1, 1, 1, false, false⟩
theorem c1_ok : G.chk c1 = 0 := by decide +kernel
theorem c1_node : G.isN c1 0 = true := by decide +kernel
theorem p1_len : p1.ws.length = 2 := by
 rw [p1_fine.ws_small.2]
 decide +kernel
theorem p1_wds : Wds p1.ws 1 fun i => ([(1, 0)] : List (Int × Int)).getD i (0, 0) |>.1 := wds_fine p1_fine
theorem c1_east : G.chP (G.opt c1 0 1) 0 = 1 := by decide +kernel
theorem c1_class : clsR c1 0 = (0, 1) := by decide +kernel
structure LivR (x0 x1 : Nat) (S1 S2 S3 S4 S5 S6 : RS) (o5 o6 : KO) : Prop where
 ws : p1.ws = [x0, x1]
 l0 : x0 < 18446744073709551616
 l1 : x1 < 18446744073709551616
 s1 : putRt (newRt 1 2 0) 0 0 x0 = (S1, 0)
 s2 : putRt S1 0 0 x1 = (S2, 0)
 s3 : findRt (telR c1 0) S2 0 0 0 = (S3, true)
 s4 : giveRt (clsR c1) S3 0 0 = (S4, true)
 h4 : ownerRt S4 1 0 = (0, 0, true)
 s5 : moveRt S4 1 (fun _ => true) = (S5, o5, 0, true)
 w5 : o5.word = x0
 s6 : moveRt S5 1 (fun _ => true) = (S6, o6, 0, true)
 e6 : o6.ends = true
 h6 : ownerRt S6 1 0 = (0, 0, false)
 i6 : idleRt S6 = true
 n2 : S2.node = 0
 n4 : S4.n = 1
 n5 : S5.n = 1
theorem livR : ∃ x0 x1 S1 S2 S3 S4 S5 S6 o5 o6, LivR x0 x1 S1 S2 S3 S4 S5 S6 o5 o6 := by
 have hW := p1_wds
 have hlen := p1_len
 have hc : (readR (p1.ws.getD 0 0)).1.c = false := hd_cast p1_fine (by decide)
 have hd := (hW.hd 0 (by decide)).2.2.1
 have hlt := hW.lt
 have ps := fun i hi => pass_step (r := 2) hW [] (p := 1) (ln := 0) (by decide) (i := i) hi
 have pf := pass_find (r := 2) hW [] (p := 1) (node := 0) (by decide) (by decide)
 have pg := pass_give (r := 2) (L := p1.ws) [] (by omega) 1 0
 obtain ⟨x0, x1, hL⟩ : ∃ x0 x1, p1.ws = [x0, x1] := by
  match p1.ws, hlen with
  | [a, b], _ => exact ⟨a, b, rfl⟩
 have t0 := ps 0 (by omega)
 have t1 := ps 1 (by omega)
 rw [hL] at hc hd hlt pf pg t0 t1
 clear ps hW hlen
 have l0 : x0 < 18446744073709551616 := hlt x0 (by simp)
 have l1 : x1 < 18446744073709551616 := hlt x1 (by simp)
 have q0 : newRt 1 2 0 = loneR 1 2 0 0 (newK 2) (List.replicate 5 (-1)) (List.replicate 5 0) (List.replicate 5 0) := lone_new (n := 1) (d := 2) (node := 0) (k := 0) (by decide)
 have hin : ∀ K own gv mv, inRt (loneR 1 2 0 0 K own gv mv) 0 0 = true := fun _ _ _ _ => rfl
 have hix : ∀ K own gv mv, ixRt (loneR 1 2 0 0 K own gv mv) 0 0 = 0 := fun _ _ _ _ => rfl
 have a1 : putRt (newRt 1 2 0) 0 0 x0 = (loneR 1 2 0 0 ⟨2, [x0], 0, 0, 0, false⟩ (List.replicate 5 (-1)) (List.replicate 5 0) (List.replicate 5 0), 0) := by
  rw [q0, lone_put (by decide) (hin ..) (hix ..)]
  rfl
 have a2 : putRt (loneR 1 2 0 0 ⟨2, [x0], 0, 0, 0, false⟩ (List.replicate 5 (-1)) (List.replicate 5 0) (List.replicate 5 0)) 0 0 x1 = (loneR 1 2 0 0 ⟨2, [x0, x1], 0, 0, 0, false⟩ (List.replicate 5 (-1)) (List.replicate 5 0) (List.replicate 5 0), 0) := by
  rw [lone_put (by decide) (hin ..) (hix ..)]
  rfl
 have told : toldRt (telR c1 0) ⟨2, [x0, x1], 0, 0, 0, false⟩ 0 = 1 := by
  show telR c1 0 (readR x0).1 0 = 1
  unfold telR
  rw [show (readR x0).1.c = false from hc, show (readR x0).1.d = 1 from hd]
  exact c1_east
 have a3 : findRt (telR c1 0) (loneR 1 2 0 0 ⟨2, [x0, x1], 0, 0, 0, false⟩ (List.replicate 5 (-1)) (List.replicate 5 0) (List.replicate 5 0)) 0 0 0 = (loneR 1 2 0 0 ⟨2, [x0, x1], 1, 1, 0, false⟩ (List.replicate 5 (-1)) (List.replicate 5 0) (List.replicate 5 0), true) := by
  rw [lone_find (by decide) (hin ..) (hix ..), told, show findK ⟨2, [x0, x1], 0, 0, 0, false⟩ 0 1 = _ from pf]
  rfl
 have a4 : giveRt (clsR c1) (loneR 1 2 0 0 ⟨2, [x0, x1], 1, 1, 0, false⟩ (List.replicate 5 (-1)) (List.replicate 5 0) (List.replicate 5 0)) 0 0 = (loneR 1 2 0 0 (passK 2 [x0, x1] [] 1 0 0) ((List.replicate 5 (-1)).set 1 0) ((List.replicate 5 0).set 1 1) (List.replicate 5 0), true) := by
  have e := lone_give (n := 1) (d := 2) (node := 0) (k := 0) (K := ⟨2, [x0, x1], 1, 1, 0, false⟩) (mv := List.replicate 5 0) (by decide) (p := 0) (l := 0) rfl rfl rfl (q := 1) rfl (by decide) (C := clsR c1) (by rw [show clsR c1 (0 : Int).toNat = _ from c1_class]) (by rw [show clsR c1 (0 : Int).toNat = _ from c1_class]; decide)
  rw [show giveK ⟨2, [x0, x1], 1, 1, 0, false⟩ 0 = _ from pg] at e
  exact e
 obtain ⟨own5, mv5, m5, hm5, -, -, ho5⟩ := lone_move (n := 1) (d := 2) (node := 0) (k := 0) (K := passK 2 [x0, x1] [] 1 0 0) (own := (List.replicate 5 (-1)).set 1 0) (gv := (List.replicate 5 0).set 1 1) (mv := List.replicate 5 0) (by decide) (p := 1) (by decide) (may := fun _ => true) (by decide) rfl rfl (by simp [passK]) (Or.inr rfl)
 rw [t0] at m5 ho5
 have h5 : own5 = (List.replicate 5 (-1)).set 1 0 := by
  rw [ho5, if_neg (fun c => by have := c.1; simp at this)]
 obtain ⟨own6, mv6, m6, -, -, -, ho6⟩ := lone_move (n := 1) (d := 2) (node := 0) (k := 0) (K := passK 2 [x0, x1] [] 1 0 1) (own := own5) (gv := (List.replicate 5 0).set 1 1) (mv := mv5) (by decide) (p := 1) (by decide) (may := fun _ => true) hm5 rfl rfl (by simp [passK]) (Or.inr rfl)
 rw [t1] at m6 ho6
 have h6 : own6 = List.replicate 5 (-1) := by
  rw [ho6, if_pos ⟨by simp, by decide⟩, h5]
  rfl
 refine ⟨x0, x1, _, _, _, _, _, _, _, _, hL, l0, l1, a1, a2, a3, a4, ?_, m5, rfl, m6, by simp, ?_, ?_, rfl, rfl, rfl⟩
 ·exact lone_owner (n := 1) (d := 2) (node := 0) (k := 0) (by decide) (q := 1) (by decide) rfl (p := 1) (by decide) (by decide)
 ·rw [h6]
  rfl
 ·exact lone_idle (by decide) rfl rfl
end Go.Proofs.YtmmegmonmilkcaaGreatDoor
