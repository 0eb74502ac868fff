/-
  A parcel for one goes through a router, alone (plain mathematics).
-/
import Derived.Test.YtmmegmonmilkcaaGreatDoorRtLiv
namespace Go.Proofs.YtmmegmonmilkcaaGreatDoor

/-- The lane of a parcel for one, i of whose words went out by the port o. -/
def goK (L : List Nat) (o : Int) (i : Nat) : KS := if o = 0 then thruK 64 L 1 1 0 i else passK 64 L [] o 0 i
section
variable {L : List Nat} {D : Nat → Int}
theorem goK_step (h : Wds L 1 D) (o : Int) {i : Nat} (hi : i < L.length) : takeK (goK L o i) = (goK L o (i + 1), ⟨o, 0, L.getD i 0, false, decide (i + 1 = L.length)⟩, 0) := by
  unfold goK
  by_cases e : o = 0
  · subst e
    rw [if_pos rfl, if_pos rfl]
    have := thru_step (r := 64) h (p := 1) (ln := 0) (by decide) hi
    unfold preK at this
    rw [if_neg (by omega)] at this
    rw [this]
    unfold thruO
    rw [if_pos (Or.inr rfl)]
  · rw [if_neg e, if_neg e]
    exact pass_step h [] e hi
theorem goK_at (o : Int) {i : Nat} (hi : i < L.length) : goK L o i = ⟨64, L.drop i, 2, o, 0, false⟩ := by
  unfold goK
  by_cases e : o = 0
  · subst e
    rw [if_pos rfl]
    unfold thruK
    rw [if_pos hi, if_pos (Or.inr rfl)]
  · rw [if_neg e]
    unfold passK
    rw [if_pos hi, List.append_nil]
theorem goK_end (o : Int) : goK L o L.length = ⟨64, [], 0, 0, 0, false⟩ := by
  unfold goK
  split
  · unfold thruK; rw [if_neg (by omega)]
  · unfold passK; rw [if_neg (by omega)]
theorem drop_ne {i : Nat} (hi : i < L.length) : L.drop i ≠ [] := fun h => by
  have := List.drop_eq_nil_iff.1 h
  omega
end
/-- What the law's calls answer: A i: i words are put; B: a way is found; E: behind the giving; G i: behind i movings. -/
structure Thr (T : Fl → Int → Int) (C : Nat → Nat × Nat) (n : Nat) (node : Int) (port : Nat) (ch : Int) (L : List Nat) (o : Nat) (A : Nat → RS) (B E : RS) (G : Nat → RS → Prop) : Prop where
  nw : newRt n 64 node = A 0
  put : ∀ i, i < L.length → putRt (A i) (port : Int) 0 (L.getD i 0) = (A (i + 1), 0)
  find : findRt T (A L.length) (port : Int) 0 ch = (B, true)
  again : findRt T B (port : Int) 0 ch = (B, false)
  give : giveRt C B (port : Int) 0 = (E, decide (o ≠ 0))
  own : ∀ q : Nat, q < 5 → 1 ≤ q → ownerRt E (q : Int) 0 = if q = o then (port, 0, true) else (0, 0, false)
  beg : G 0 E
  step : ∀ i S, i < L.length → G i S → ∃ S', moveRt S (o : Int) (fun _ => true) = (S', ⟨(o : Int), 0, L.getD i 0, false, decide (i + 1 = L.length)⟩, port * n, true) ∧ G (i + 1) S' ∧ S.n = n
  fin : ∀ S, G L.length S → moveRt S (o : Int) (fun _ => true) = (S, zko, 0, false) ∧ idleRt S = true ∧ S.n = n
  an : ∀ i, (A i).node = node
  bn : B.node = node
theorem thr_of {T : Fl → Int → Int} {C : Nat → Nat × Nat} {n : Nat} {node : Int} {port : Nat} {ch : Int} {L : List Nat} {D : Nat → Int} {o : Nat} (hW : Wds L 1 D) (h1 : 1 ≤ n) (hp : port < 5)
    (ho : (D 0 = node ∧ o = 0) ∨ (D 0 ≠ node ∧ T (readR (L.getD 0 0)).1 ch = (o : Int) ∧ 1 ≤ o ∧ o ≤ 4)) (hC : (C 0).1 = 0 ∧ 1 ≤ (C 0).2) :
    ∃ A B E G, Thr T C n node port ch L o A B E G := by
  have hl := hW.len
  have hsm := hW.small
  have hk : port * n < 5 * n := Nat.mul_lt_mul_of_pos_right hp (by omega)
  have hin : ∀ K own gv mv, inRt (loneR n 64 node (port * n) K own gv mv) (port : Int) 0 = true := fun K own gv mv => by
    rw [lone_in, decide_eq_true_eq]
    omega
  have hix : ∀ K own gv mv, ixRt (loneR n 64 node (port * n) K own gv mv) (port : Int) 0 = port * n := fun K own gv mv => by
    show (port : Int).toNat * n + (0 : Int).toNat = port * n
    simp
  have hx0 : ∃ t, L = L.getD 0 0 :: t := ⟨L.drop 1, by
    have := drop_getD (L := L) (i := 0) (by omega)
    rwa [List.drop_zero] at this⟩
  have told : toldRt T ⟨64, L, 0, 0, 0, false⟩ ch = T (readR (L.getD 0 0)).1 ch := by
    obtain ⟨t, ht⟩ := hx0
    unfold toldRt
    generalize L.getD 0 0 = x at *
    subst ht
    rfl
  have ph1 : ∀ (K : KS) (P : Int), K.ph ≠ 0 → findK K node P = (K, false) := fun K P h => by
    unfold findK
    split
    · rfl
    · rw [if_neg fun c => h c.1]
  have f0 : findK ⟨64, L, 0, 0, 0, false⟩ node (T (readR (L.getD 0 0)).1 ch) = (if o = 0 then ⟨64, L, 2, 0, 0, false⟩ else ⟨64, L, 1, (o : Int), 0, false⟩, true) := by
    rcases ho with ⟨rfl, rfl⟩ | ⟨a, b, c, d⟩
    · rw [thru_find0 hW _ 1 0, if_pos rfl]
      unfold thruK
      rw [if_pos (by omega), if_pos (Or.inl rfl), List.drop_zero]
    · have := pass_find (r := 64) hW [] (p := (o : Int)) a (by omega)
      rw [List.append_nil] at this
      rw [b, this, if_neg (by omega)]
  obtain ⟨K1, hK1⟩ : ∃ K1 : KS, (if o = 0 then ⟨64, L, 2, 0, 0, false⟩ else ⟨64, L, 1, (o : Int), 0, false⟩) = K1 := ⟨_, rfl⟩
  rw [hK1] at f0
  have hK1p : K1.ph ≠ 0 := by
    rw [← hK1]
    split
    · exact (by decide : (2 : Int) ≠ 0)
    · exact (by decide : (1 : Int) ≠ 0)
  have base := lone_new (n := n) (d := 64) (node := node) hk
  have hgo0 : goK L (o : Int) 0 = ⟨64, L, 2, (o : Int), 0, false⟩ := by
    rw [goK_at _ (by omega), List.drop_zero]
  -- behind the giving
  obtain ⟨own, gv, hg, hown⟩ : ∃ own gv, giveRt C (loneR n 64 node (port * n) K1 (List.replicate (5 * n) (-1)) (List.replicate 5 0) (List.replicate 5 0)) (port : Int) 0 = (loneR n 64 node (port * n) (goK L (o : Int) 0) own gv (List.replicate 5 0), decide (o ≠ 0)) ∧
      ∀ q : Nat, q < 5 → 1 ≤ q → ownerRt (loneR n 64 node (port * n) (goK L (o : Int) 0) own gv (List.replicate 5 0)) (q : Int) 0 = if q = o then (port, 0, true) else (0, 0, false) := by
    by_cases e : o = 0
    · subst e
      rw [if_pos rfl] at hK1
      subst hK1
      refine ⟨List.replicate (5 * n) (-1), List.replicate 5 0, ?_, fun q q5 q1 => ?_⟩
      · unfold giveRt
        rw [if_pos (hin ..), hix, lone_at hk _ hk, if_pos rfl, if_neg (show ¬ (2 : Int) = 1 by decide), hgo0]
        rfl
      · rw [if_neg (by omega)]
        unfold ownerRt
        rw [if_neg]
        intro c
        have := c.2
        rw [show (loneR n 64 node (port * n) (goK L ((0 : Nat) : Int) 0) (List.replicate (5 * n) (-1)) (List.replicate 5 0) (List.replicate 5 0)).own = List.replicate (5 * n) (-1) from rfl, rep_neg] at this
        · omega
        · show (q : Int).toNat * n + (0 : Int).toNat < 5 * n
          have : q * n < 5 * n := Nat.mul_lt_mul_of_pos_right q5 (by omega)
          simpa using this
    · rw [if_neg e] at hK1
      subst hK1
      have := lone_give (n := n) (d := 64) (node := node) (k := port * n) (K := ⟨64, L, 1, (o : Int), 0, false⟩) (mv := List.replicate 5 0) hk (p := (port : Int)) (l := 0) (hin ..) (hix ..) rfl (q := o) rfl (by omega) (C := C) (by simpa using hC.1) (by simpa using hC.2)
      rw [show (giveK ⟨64, L, 1, (o : Int), 0, false⟩ 0).1 = ⟨64, L, 2, (o : Int), 0, false⟩ from rfl] at this
      refine ⟨(List.replicate (5 * n) (-1)).set (o * n) ((port * n : Nat) : Int), (List.replicate 5 0).set o 1, ?_, fun q q5 q1 => ?_⟩
      · rw [hgo0, this, decide_eq_true e]
      · have ow := lone_owner (n := n) (d := 64) (node := node) (k := port * n) (K := goK L (o : Int) 0) (gv := (List.replicate 5 0).set o 1) (mv := List.replicate 5 0) hk (q := o) (by omega) rfl q5 (by omega)
        rw [ow, Nat.mul_div_cancel _ (by omega), Nat.mul_mod_left]
  refine ⟨fun i => loneR n 64 node (port * n) ⟨64, L.take i, 0, 0, 0, false⟩ (List.replicate (5 * n) (-1)) (List.replicate 5 0) (List.replicate 5 0), loneR n 64 node (port * n) K1 (List.replicate (5 * n) (-1)) (List.replicate 5 0) (List.replicate 5 0), loneR n 64 node (port * n) (goK L (o : Int) 0) own gv (List.replicate 5 0), fun i S => ∃ own gv mv, S = loneR n 64 node (port * n) (goK L (o : Int) i) own gv mv ∧ mv.getD o 0 ≤ 5 * n, ?_⟩
  refine ⟨base, fun i hi => ?_, ?_, ?_, hg, hown, ⟨own, gv, _, rfl, by rw [rep_zero]; omega⟩, fun i S hi hS => ?_, fun S hS => ?_, fun _ => rfl, rfl⟩
  · rw [lone_put hk (hin ..) (hix ..)]
    have := put_take (r := 64) hi [] (by simp; omega)
    simp only [List.nil_append] at this
    rw [this]
  · show findRt T (loneR n 64 node (port * n) ⟨64, L.take L.length, 0, 0, 0, false⟩ _ _ _) _ _ _ = _
    rw [List.take_length, lone_find hk (hin ..) (hix ..), told, f0]
    rfl
  · rw [lone_find hk (hin ..) (hix ..), ph1 _ _ hK1p]
    rfl
  · obtain ⟨own, gv, mv, rfl, hm⟩ := hS
    have hat := goK_at (L := L) (o : Int) hi
    obtain ⟨own', mv', m1, m2, -, -, -⟩ := lone_move (n := n) (d := 64) (node := node) (k := port * n) (K := goK L (o : Int) i) (own := own) (gv := gv) (mv := mv) hk (p := (o : Int)) (by omega) (may := fun _ => true) (by simpa using hm) (by rw [hat]) (by rw [hat]) (by rw [hat]; exact drop_ne hi) (Or.inr rfl)
    rw [goK_step hW _ hi] at m1
    exact ⟨_, m1, ⟨own', gv, mv', rfl, by simpa using m2⟩, rfl⟩
  · obtain ⟨own, gv, mv, rfl, hm⟩ := hS
    rw [goK_end]
    exact ⟨lone_stays hk (fun c => by have := c.1; simp at this), lone_idle hk rfl rfl, rfl⟩
/-- The class of the lane 0. -/
theorem cls_zero {c : G.Cf} (h : G.chk c = 0) : (clsR c 0).1 = 0 ∧ 1 ≤ (clsR c 0).2 := by
  have f := G.fits_of h
  have l1 := f.l1
  unfold clsR G.cla
  rw [if_pos h]
  cases hc : c.ca with
  | true =>
    have := f.lc hc
    rw [if_pos rfl, decide_eq_false (by omega)]
    refine ⟨rfl, ?_⟩
    show 1 ≤ (c.l - 1).toNat
    omega
  | false =>
    refine ⟨rfl, ?_⟩
    show 1 ≤ c.l.toNat
    omega
/-- The port that is told of a packet for another node. -/
theorem tel_port {c : G.Cf} {a : Int} {f : Fl} (hf : f.c = false) (ha : G.isN c a = true) (hb : G.isN c f.d = true) (hne : f.d ≠ a) (ch : Int) : ∃ o : Nat, telR c a f ch = (o : Int) ∧ 1 ≤ o ∧ o ≤ 4 := by
  have hm := G.chP_mem (l := G.opt c a f.d) (by have := G.opt_len ha hb; omega) ch
  have hc := G.opt_cases ha hb (fun e => hne e.symm) hm
  refine ⟨(telR c a f ch).toNat, ?_⟩
  unfold telR
  rw [hf, if_neg (by decide)]
  omega
end Go.Proofs.YtmmegmonmilkcaaGreatDoor
