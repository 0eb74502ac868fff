/-
  Two parcels that go out by one port, on lanes of their own (plain mathematics).
-/
import Derived.Test.YtmmegmonmilkcaaGreatDoorRtDuo2
namespace Go.Proofs.YtmmegmonmilkcaaGreatDoor

/-- What RouterTurns' calls answer: A i: i words of the first are put; B: its way is found; B0 j: behind its giving, j words of the second are put; E0: its way is found; E: behind its giving; G i j last: behind so many movings of each, the last one of `last` (-1: none). -/
structure Trn (T : Fl → Int → Int) (C : Nat → Nat × Nat) (n : Nat) (L1 L2 : List Nat) (A : Nat → RS) (B : RS) (B0 : Nat → RS) (E0 E : RS) (G : Nat → Nat → Int → RS → Prop) : Prop where
  nw : newRt n 64 1 = A 0
  put1 : ∀ i, i < L1.length → putRt (A i) 0 0 (L1.getD i 0) = (A (i + 1), 0)
  find1 : findRt T (A L1.length) 0 0 0 = (B, true)
  give1 : giveRt C B 0 0 = (B0 0, true)
  put2 : ∀ i, i < L2.length → putRt (B0 i) 2 0 (L2.getD i 0) = (B0 (i + 1), 0)
  find2 : findRt T (B0 L2.length) 2 0 0 = (E0, true)
  give2 : giveRt C E0 2 0 = (E, true)
  an : ∀ i, (A i).node = 1
  bn : ∀ i, (B0 i).node = 1
  own1 : ownerRt E 1 0 = (0, 0, true)
  own2 : ownerRt E 1 1 = (2, 0, true)
  beg : G 0 0 (-1) E
  step : ∀ i j last S, i ≤ L1.length → j ≤ L2.length → i < L1.length ∨ j < L2.length → G i j last S → ∃ S' o k, moveRt S 1 (fun _ => true) = (S', o, k, true) ∧ S.n = n ∧
    ((k = 0 ∧ i < L1.length ∧ o.word = L1.getD i 0 ∧ ¬ (last = 0 ∧ j < L2.length) ∧ G (i + 1) j 0 S') ∨ (k = 2 * n ∧ j < L2.length ∧ o.word = L2.getD j 0 ∧ ¬ (last = 1 ∧ i < L1.length) ∧ G i (j + 1) 1 S'))
  fin : ∀ last S, G L1.length L2.length last S → idleRt S = true
theorem nextK2_one {k1 k2 l k : Nat} {b1 b2 : Bool} (h : nextK2 k1 k2 l b1 b2 = some k) : (k = k1 ∧ b1 = true ∧ ¬ (k1 < l ∧ l ≤ k2 ∧ b2 = true)) ∨ (k = k2 ∧ b2 = true ∧ ¬ (b1 = true ∧ ¬ (k1 < l ∧ l ≤ k2))) := by
  unfold nextK2 at h
  cases b1 <;> cases b2
  · simp at h
  · simp at h; exact Or.inr ⟨h.symm, rfl, by simp⟩
  · simp at h; exact Or.inl ⟨h.symm, rfl, by simp⟩
  · rw [if_pos ⟨rfl, rfl⟩] at h
    split at h
    · simp only [Option.some.injEq] at h
      exact Or.inr ⟨h.symm, rfl, fun c => c.2 ‹_›⟩
    · simp only [Option.some.injEq] at h
      rename_i hc
      exact Or.inl ⟨h.symm, rfl, fun c => hc ⟨c.1, c.2.1⟩⟩
theorem nextK2_some {k1 k2 l : Nat} {b1 b2 : Bool} (h : b1 = true ∨ b2 = true) : nextK2 k1 k2 l b1 b2 = some k1 ∨ nextK2 k1 k2 l b1 b2 = some k2 := by
  unfold nextK2
  cases b1 <;> cases b2
  · simp at h
  · exact Or.inr rfl
  · exact Or.inl rfl
  · rw [if_pos ⟨rfl, rfl⟩]
    split
    · exact Or.inr rfl
    · exact Or.inl rfl
theorem trn_of {T : Fl → Int → Int} {C : Nat → Nat × Nat} {n : Nat} {L1 L2 : List Nat} (W1 : Wds L1 1 (fun _ => 2)) (W2 : Wds L2 1 (fun _ => 2)) (h2 : 2 ≤ n) (hC : C 0 = (0, n)) (t1 : T (readR (L1.getD 0 0)).1 0 = 1) (t2 : T (readR (L2.getD 0 0)).1 0 = 1) :
    ∃ A B B0 E0 E G, Trn T C n L1 L2 A B B0 E0 E G := by
  have l1 := W1.len
  have l2 := W2.len
  have s1 := W1.small
  have s2 := W2.small
  have k1 : 0 < 5 * n := by omega
  have k2 : 2 * n < 5 * n := by omega
  have hne : 0 ≠ 2 * n := by omega
  have hin : ∀ (q : Nat) K1 K2 own gv mv, q < 5 → inRt (duoR n 64 1 0 (2 * n) K1 K2 own gv mv) (q : Int) 0 = true := fun q K1 K2 own gv mv hq => by
    rw [duo_in, decide_eq_true_eq]
    omega
  have hix : ∀ (q : Nat) K1 K2 own gv mv, ixRt (duoR n 64 1 0 (2 * n) K1 K2 own gv mv) (q : Int) 0 = q * n := fun q K1 K2 own gv mv => by
    show (q : Int).toNat * n + (0 : Int).toNat = q * n
    simp
  have hin1 : ∀ K1 K2 own gv mv, inRt (duoR n 64 1 0 (2 * n) K1 K2 own gv mv) 0 0 = true := fun K1 K2 own gv mv => hin 0 K1 K2 own gv mv (by decide)
  have hin2 : ∀ K1 K2 own gv mv, inRt (duoR n 64 1 0 (2 * n) K1 K2 own gv mv) 2 0 = true := fun K1 K2 own gv mv => hin 2 K1 K2 own gv mv (by decide)
  have hix1 : ∀ K1 K2 own gv mv, ixRt (duoR n 64 1 0 (2 * n) K1 K2 own gv mv) 0 0 = 0 := fun K1 K2 own gv mv => (hix 0 K1 K2 own gv mv).trans (Nat.zero_mul n)
  have hix2 : ∀ K1 K2 own gv mv, ixRt (duoR n 64 1 0 (2 * n) K1 K2 own gv mv) 2 0 = 2 * n := fun K1 K2 own gv mv => hix 2 K1 K2 own gv mv
  have told : ∀ (L : List Nat), Wds L 1 (fun _ => 2) → T (readR (L.getD 0 0)).1 0 = 1 → toldRt T ⟨64, L, 0, 0, 0, false⟩ 0 = 1 := fun L W ht => by
    obtain ⟨t, e⟩ : ∃ t, L = L.getD 0 0 :: t := ⟨L.drop 1, by
      have := drop_getD (L := L) (i := 0) (by have := W.len; omega)
      rwa [List.drop_zero] at this⟩
    clear W
    unfold toldRt
    generalize L.getD 0 0 = x at *
    subst e
    exact ht
  have found : ∀ (L : List Nat), Wds L 1 (fun _ => 2) → findK ⟨64, L, 0, 0, 0, false⟩ 1 1 = (⟨64, L, 1, 1, 0, false⟩, true) := fun L W => by
    have := pass_find (r := 64) W [] (p := 1) (node := 1) (by decide) (by decide)
    rwa [List.append_nil] at this
  have put : ∀ (L : List Nat) i, L.length ≤ 17 → i < L.length → putK ⟨64, L.take i, 0, 0, 0, false⟩ (L.getD i 0) = (⟨64, L.take (i + 1), 0, 0, 0, false⟩, 0) := fun L i hl hi => by
    have := put_take (r := 64) hi [] (by simp; omega)
    simpa using this
  have wa0 : ∀ (L : List Nat) (ln : Int), 0 < L.length → (giveK ⟨64, L, 1, 1, 0, false⟩ ln).1 = waK L 1 ln 0 := fun L ln hl => by
    rw [waK_at _ _ hl, List.drop_zero]
    rfl
  obtain ⟨o1, ho1⟩ : ∃ o, (List.replicate (5 * n) (-1 : Int)).set (1 * n + 0) ((0 : Nat) : Int) = o := ⟨_, rfl⟩
  obtain ⟨o2, ho2⟩ : ∃ o, o1.set (1 * n + 1) ((2 * n : Nat) : Int) = o := ⟨_, rfl⟩
  have go1 : ∀ j, j < 5 * n → o1.getD j 0 = if j = 1 * n + 0 then 0 else -1 := fun j hj => by
    rw [← ho1, getDset _ _ _ _ _ (by rw [List.length_replicate]; omega), rep_neg _ _ hj]
    rfl
  have lo1 : o1.length = 5 * n := by rw [← ho1, List.length_set, List.length_replicate]
  have go2 : ∀ j, j < 5 * n → o2.getD j 0 = if j = 1 * n + 1 then ((2 * n : Nat) : Int) else if j = 1 * n + 0 then 0 else -1 := fun j hj => by
    rw [← ho2, getDset _ _ _ _ _ (by rw [lo1]; omega), go1 j hj]
  have mvs : ∀ (own : List Int) (gv mv : List Nat) i j k, i ≤ L1.length → j ≤ L2.length → mv.getD 1 0 ≤ 5 * n → nextK2 0 (2 * n) (mv.getD 1 0) (decide (i < L1.length)) (decide (j < L2.length)) = some k →
      ∃ own' o, moveRt (duoR n 64 1 0 (2 * n) (waK L1 1 0 i) (waK L2 1 1 j) own gv mv) 1 (fun _ => true) = (duoR n 64 1 0 (2 * n) (waK L1 1 0 (if k = 0 then i + 1 else i)) (waK L2 1 1 (if k = 0 then j else j + 1)) own' gv (mv.set 1 (k + 1)), o, k, true) ∧ o.word = (if k = 0 then L1.getD i 0 else L2.getD j 0) := fun own gv mv i j k hi hj hm hs => by
    have hs' : nextK2 0 (2 * n) (mv.getD (1 : Int).toNat 0) (sendsK (waK L1 1 0 i) 1 (fun _ => true)) (sendsK (waK L2 1 1 j) 1 (fun _ => true)) = some k := by
      rw [waK_sends _ _ hi 1 (Or.inr rfl), waK_sends _ _ hj 1 (Or.inr rfl), decide_eq_true (rfl : (1 : Int) = 1), Bool.and_true, Bool.and_true]
      exact hs
    rcases nextK2_one hs with ⟨rfl, b1, -⟩ | ⟨rfl, b2, -⟩
    · have hlt : i < L1.length := of_decide_eq_true b1
      have := duo_move1 (d := 64) (node := 1) (K1 := waK L1 1 0 i) (K2 := waK L2 1 1 j) (own := own) (gv := gv) (mv := mv) (show 0 < 2 * n by omega) k2 (p := 1) (by decide) (may := fun _ => true) hm hs'
      rw [waK_step W1 (fun h => by cases h) hlt] at this
      exact ⟨_, _, this, rfl⟩
    · have hlt : j < L2.length := of_decide_eq_true b2
      have := duo_move2 (d := 64) (node := 1) (K1 := waK L1 1 0 i) (K2 := waK L2 1 1 j) (own := own) (gv := gv) (mv := mv) (show 0 < 2 * n by omega) k2 (p := 1) (by decide) (may := fun _ => true) hm hs'
      rw [waK_step W2 (fun h => by cases h) hlt] at this
      rw [if_neg (by omega), if_neg (by omega), if_neg (by omega)]
      exact ⟨_, _, this, rfl⟩
  refine ⟨fun i => duoR n 64 1 0 (2 * n) ⟨64, L1.take i, 0, 0, 0, false⟩ (newK 64) (List.replicate (5 * n) (-1)) (List.replicate 5 0) (List.replicate 5 0), duoR n 64 1 0 (2 * n) ⟨64, L1, 1, 1, 0, false⟩ (newK 64) (List.replicate (5 * n) (-1)) (List.replicate 5 0) (List.replicate 5 0), fun i => duoR n 64 1 0 (2 * n) (waK L1 1 0 0) ⟨64, L2.take i, 0, 0, 0, false⟩ o1 ((List.replicate 5 0).set 1 1) (List.replicate 5 0), duoR n 64 1 0 (2 * n) (waK L1 1 0 0) ⟨64, L2, 1, 1, 0, false⟩ o1 ((List.replicate 5 0).set 1 1) (List.replicate 5 0), duoR n 64 1 0 (2 * n) (waK L1 1 0 0) (waK L2 1 1 0) o2 (((List.replicate 5 0).set 1 1).set 1 2) (List.replicate 5 0),
    fun i j last S => ∃ own gv mv, S = duoR n 64 1 0 (2 * n) (waK L1 1 0 i) (waK L2 1 1 j) own gv mv ∧ mv.length = 5 ∧ ((last = -1 ∧ mv.getD 1 0 = 0) ∨ (last = 0 ∧ mv.getD 1 0 = 1) ∨ (last = 1 ∧ mv.getD 1 0 = 2 * n + 1)), ?_⟩
  refine ⟨duo_new k1 k2, fun i hi => ?_, ?_, ?_, fun i hi => ?_, ?_, ?_, fun _ => rfl, fun _ => rfl, ?_, ?_, ⟨_, _, _, rfl, rfl, Or.inl ⟨rfl, rep_zero 5 1⟩⟩, fun i j last S hi hj hij hS => ?_, fun last S hS => ?_⟩
  · rw [duo_put1 k1 k2 hne (hin1 ..) (hix1 ..), put _ _ s1 hi]
  · refine duo_find1 k1 k2 hne (hin1 ..) (hix1 ..) T 0 ?_
    rw [List.take_length, told L1 W1 t1]
    exact found L1 W1
  · have ha : ask n ((List.replicate 5 0).getD 1 0) (freeRt (duoR n 64 1 0 (2 * n) ⟨64, L1, 1, 1, 0, false⟩ (newK 64) (List.replicate (5 * n) (-1)) (List.replicate 5 0) (List.replicate 5 0)) 1 (C (0 : Int).toNat).1 (C (0 : Int).toNat).2) = (0, true) := by
      have e := ask_hit (N := n) (l := 0) (W := freeRt (duoR n 64 1 0 (2 * n) ⟨64, L1, 1, 1, 0, false⟩ (newK 64) (List.replicate (5 * n) (-1)) (List.replicate 5 0) (List.replicate 5 0)) 1 (C (0 : Int).toNat).1 (C (0 : Int).toNat).2) (i := 0) (by omega) (by
        rw [Nat.zero_add, Nat.zero_mod, freeRt_iff, show C (0 : Int).toNat = (0, n) from hC]
        refine ⟨by omega, ?_⟩
        show (List.replicate (5 * n) (-1 : Int)).getD (1 * n + 0) 0 < 0
        rw [rep_neg _ _ (by omega)]
        decide) (fun j hj => absurd hj (Nat.not_lt_zero _))
      rw [rep_zero, e, Nat.zero_add, Nat.zero_mod]
    have := giveRt_yes (C := C) (S := duoR n 64 1 0 (2 * n) ⟨64, L1, 1, 1, 0, false⟩ (newK 64) (List.replicate (5 * n) (-1)) (List.replicate 5 0) (List.replicate 5 0)) (p := 0) (l := 0) (k := 0) (q := 1) (i := 0) (K := ⟨64, L1, 1, 1, 0, false⟩) (hin1 ..) (hix1 ..) (by rw [duo_at k1 k2 0 k1, if_neg hne, if_pos rfl]) rfl rfl ha
    rw [this, duo_set1 hne, show (giveK ⟨64, L1, 1, 1, 0, false⟩ ((0 : Nat) : Int)).1 = _ from wa0 L1 0 (by omega)]
    show (_, true) = (_, true)
    rw [← ho1]
    rfl
  · rw [duo_put2 k1 k2 (hin2 ..) (hix2 ..), put _ _ s2 hi]
  · refine duo_find2 k1 k2 (hin2 ..) (hix2 ..) T 0 ?_
    rw [List.take_length, told L2 W2 t2]
    exact found L2 W2
  · have ha : ask n (((List.replicate 5 0).set 1 1).getD 1 0) (freeRt (duoR n 64 1 0 (2 * n) (waK L1 1 0 0) ⟨64, L2, 1, 1, 0, false⟩ o1 ((List.replicate 5 0).set 1 1) (List.replicate 5 0)) 1 (C (0 : Int).toNat).1 (C (0 : Int).toNat).2) = (1, true) := by
      have e := ask_hit (N := n) (l := 1) (W := freeRt (duoR n 64 1 0 (2 * n) (waK L1 1 0 0) ⟨64, L2, 1, 1, 0, false⟩ o1 ((List.replicate 5 0).set 1 1) (List.replicate 5 0)) 1 (C (0 : Int).toNat).1 (C (0 : Int).toNat).2) (i := 0) (by omega) (by
        rw [Nat.add_zero, Nat.mod_eq_of_lt (by omega), freeRt_iff, show C (0 : Int).toNat = (0, n) from hC]
        refine ⟨by omega, ?_⟩
        show o1.getD (1 * n + 1) 0 < 0
        rw [go1 _ (by omega), if_neg (by omega)]
        decide) (fun j hj => absurd hj (Nat.not_lt_zero _))
      rw [show ((List.replicate 5 0).set 1 1).getD 1 0 = 1 from rfl, e, Nat.add_zero, Nat.mod_eq_of_lt (by omega)]
    have := giveRt_yes (C := C) (S := duoR n 64 1 0 (2 * n) (waK L1 1 0 0) ⟨64, L2, 1, 1, 0, false⟩ o1 ((List.replicate 5 0).set 1 1) (List.replicate 5 0)) (p := 2) (l := 0) (k := 2 * n) (q := 1) (i := 1) (K := ⟨64, L2, 1, 1, 0, false⟩) (hin2 ..) (hix2 ..) (by rw [duo_at k1 k2 _ k2, if_pos rfl]) rfl rfl ha
    rw [this, duo_set2, show (giveK ⟨64, L2, 1, 1, 0, false⟩ ((1 : Nat) : Int)).1 = _ from wa0 L2 1 (by omega)]
    show (_, true) = (_, true)
    rw [← ho2]
    rfl
  · unfold ownerRt
    have e1 : ixRt (duoR n 64 1 0 (2 * n) (waK L1 1 0 0) (waK L2 1 1 0) o2 (((List.replicate 5 0).set 1 1).set 1 2) (List.replicate 5 0)) 1 0 = 1 * n + 0 := rfl
    rw [e1]
    show (if inRt _ 1 0 = true ∧ 0 ≤ o2.getD (1 * n + 0) 0 then ((o2.getD (1 * n + 0) 0).toNat / n, (o2.getD (1 * n + 0) 0).toNat % n, true) else (0, 0, false)) = _
    have v0 : o2.getD (1 * n + 0) 0 = 0 := by rw [go2 (1 * n + 0) (by omega), if_neg (by omega), if_pos rfl]
    rw [v0, if_pos ⟨by rw [duo_in, decide_eq_true_eq]; omega, by decide⟩]
    simp
  · unfold ownerRt
    have e1 : ixRt (duoR n 64 1 0 (2 * n) (waK L1 1 0 0) (waK L2 1 1 0) o2 (((List.replicate 5 0).set 1 1).set 1 2) (List.replicate 5 0)) 1 1 = 1 * n + 1 := rfl
    rw [e1]
    show (if inRt _ 1 1 = true ∧ 0 ≤ o2.getD (1 * n + 1) 0 then ((o2.getD (1 * n + 1) 0).toNat / n, (o2.getD (1 * n + 1) 0).toNat % n, true) else (0, 0, false)) = _
    have v0 : o2.getD (1 * n + 1) 0 = ((2 * n : Nat) : Int) := by rw [go2 (1 * n + 1) (by omega), if_pos rfl]
    rw [v0, if_pos ⟨by rw [duo_in, decide_eq_true_eq]; omega, by omega⟩, Int.toNat_natCast, Nat.mul_div_cancel _ (by omega), Nat.mul_mod_left]
  · obtain ⟨own, gv, mv, rfl, h5, hl⟩ := hS
    have hm : mv.getD 1 0 ≤ 5 * n := by omega
    have sl : ∀ x, (mv.set 1 x).getD 1 0 = x := fun x => by rw [getDset _ _ _ _ _ (by omega), if_pos rfl]
    rcases nextK2_some (k1 := 0) (k2 := 2 * n) (l := mv.getD 1 0) (b1 := decide (i < L1.length)) (b2 := decide (j < L2.length)) (by simpa using hij) with h | h
    · obtain ⟨own', o, m, e⟩ := mvs own gv mv i j 0 hi hj hm h
      rw [if_pos rfl, if_pos rfl] at m
      rw [if_pos rfl] at e
      rcases nextK2_one h with ⟨-, a, b⟩ | ⟨a, -⟩
      · exact ⟨_, o, 0, m, rfl, Or.inl ⟨rfl, of_decide_eq_true a, e, fun c => b ⟨by omega, by omega, decide_eq_true c.2⟩, _, _, _, rfl, by rw [List.length_set]; exact h5, Or.inr (Or.inl ⟨rfl, sl _⟩)⟩⟩
      · omega
    · obtain ⟨own', o, m, e⟩ := mvs own gv mv i j (2 * n) hi hj hm h
      rw [if_neg (by omega), if_neg (by omega)] at m
      rw [if_neg (by omega)] at e
      rcases nextK2_one h with ⟨a, -⟩ | ⟨-, a, b⟩
      · omega
      · exact ⟨_, o, 2 * n, m, rfl, Or.inr ⟨rfl, of_decide_eq_true a, e, fun c => b ⟨decide_eq_true c.2, by omega⟩, _, _, _, rfl, by rw [List.length_set]; exact h5, Or.inr (Or.inr ⟨rfl, sl _⟩)⟩⟩
  · obtain ⟨own, gv, mv, rfl, -⟩ := hS
    rw [waK_end, waK_end]
    exact duo_idle rfl rfl rfl rfl
/-- The port that is told at the middle of three. -/
theorem tel_east {l d r i b : Int} {we : Bool} (hc : G.chk ⟨3, 1, l, d, r, i, b, we, false⟩ = 0) {f : Fl} (h1 : f.c = false) (h2 : f.d = 2) : telR ⟨3, 1, l, d, r, i, b, we, false⟩ 1 f 0 = 1 := by
  have a : G.isN ⟨3, 1, l, d, r, i, b, we, false⟩ 1 = true := G.isN_mk hc (by decide) (show (1 : Int) < 3 * 1 by decide)
  have e : G.isN ⟨3, 1, l, d, r, i, b, we, false⟩ 2 = true := G.isN_mk hc (by decide) (show (2 : Int) < 3 * 1 by decide)
  have p1 := G.place_of a
  have p2 := G.place_of e
  unfold telR
  rw [h1, if_neg (by decide), h2]
  have hx : G.ox ⟨3, 1, l, d, r, i, b, we, false⟩ 1 2 = 1 := by
    unfold G.ox
    simp only at p1 p2
    omega
  unfold G.opt
  rw [a, e, hx]
  simp only [Bool.and_self, if_true]
  rw [if_neg (by decide), if_neg (by decide), if_pos (by decide)]
  exact G.ch_first
/-- The same by the number of the parcel: Ls i its words, U i ahead of it, Pt i k: k of its words are put, Fd i: its way is found. -/
structure TrnF (T : Fl → Int → Int) (C : Nat → Nat × Nat) (n : Nat) (Ls : Nat → List Nat) (U : Nat → RS) (Pt : Nat → Nat → RS) (Fd : Nat → RS) (G : Nat → Nat → Int → RS → Prop) : Prop where
  nw : newRt n 64 1 = U 0
  p0 : ∀ i, i < 2 → Pt i 0 = U i
  put : ∀ i k, i < 2 → k < (Ls i).length → putRt (Pt i k) (2 * (i : Int)) 0 ((Ls i).getD k 0) = (Pt i (k + 1), 0)
  find : ∀ i, i < 2 → findRt T (Pt i (Ls i).length) (2 * (i : Int)) 0 0 = (Fd i, true)
  give : ∀ i, i < 2 → giveRt C (Fd i) (2 * (i : Int)) 0 = (U (i + 1), true)
  pn : ∀ i k, (Pt i k).node = 1
  own1 : ownerRt (U 2) 1 0 = (0, 0, true)
  own2 : ownerRt (U 2) 1 1 = (2, 0, true)
  beg : G 0 0 (-1) (U 2)
  step : ∀ i j last S, i ≤ (Ls 0).length → j ≤ (Ls 1).length → i < (Ls 0).length ∨ j < (Ls 1).length → G i j last S → ∃ S' o k, moveRt S 1 (fun _ => true) = (S', o, k, true) ∧ S.n = n ∧
    ((k = 0 ∧ i < (Ls 0).length ∧ o.word = (Ls 0).getD i 0 ∧ ¬ (last = 0 ∧ j < (Ls 1).length) ∧ G (i + 1) j 0 S') ∨ (k = 2 * n ∧ j < (Ls 1).length ∧ o.word = (Ls 1).getD j 0 ∧ ¬ (last = 1 ∧ i < (Ls 0).length) ∧ G i (j + 1) 1 S'))
  fin : ∀ last S, G (Ls 0).length (Ls 1).length last S → idleRt S = true
theorem trnF_of {T : Fl → Int → Int} {C : Nat → Nat × Nat} {n : Nat} {Ls : Nat → List Nat} (W : ∀ i, i < 2 → Wds (Ls i) 1 (fun _ => 2)) (h2 : 2 ≤ n) (hC : C 0 = (0, n)) (ht : ∀ i, i < 2 → T (readR ((Ls i).getD 0 0)).1 0 = 1) : ∃ U Pt Fd G, TrnF T C n Ls U Pt Fd G := by
  obtain ⟨A, B, B0, E0, E, G, H⟩ := trn_of (T := T) (C := C) (W 0 (by decide)) (W 1 (by decide)) h2 hC (ht 0 (by decide)) (ht 1 (by decide))
  refine ⟨fun i => if i = 0 then A 0 else if i = 1 then B0 0 else E, fun i k => if i = 0 then A k else B0 k, fun i => if i = 0 then B else E0, G, H.nw, fun i hi => ?_, fun i k hi hk => ?_, fun i hi => ?_, fun i hi => ?_, fun i k => ?_, H.own1, H.own2, H.beg, H.step, H.fin⟩
  · rcases (show i = 0 ∨ i = 1 by omega) with rfl | rfl <;> rfl
  · rcases (show i = 0 ∨ i = 1 by omega) with rfl | rfl
    · exact H.put1 k hk
    · exact H.put2 k hk
  · rcases (show i = 0 ∨ i = 1 by omega) with rfl | rfl
    · exact H.find1
    · exact H.find2
  · rcases (show i = 0 ∨ i = 1 by omega) with rfl | rfl
    · exact H.give1
    · exact H.give2
  · show (if i = 0 then A k else B0 k).node = 1
    split
    · exact H.an k
    · exact H.bn k
/-- Three in a row, of so many lanes. -/
theorem fits_three {dw dh dl dd dr di db : Int} {de da : Bool} (f : G.Fits ⟨dw, dh, dl, dd, dr, di, db, de, da⟩) {n : Int} (h2 : 2 ≤ n) (h8 : n ≤ 8) : G.Fits ⟨3, 1, n, 64, dr, di, db, de, false⟩ :=
  ⟨(by decide : (1 : Int) ≤ 3), (by decide : (3 : Int) ≤ 64), (by decide : (1 : Int) ≤ 1), (by decide : (1 : Int) ≤ 64), (by show 1 ≤ n; omega), h8, (fun h => by cases h), (by decide : (1 : Int) ≤ 64), (by decide : (64 : Int) ≤ 64), f.r1, f.r2, f.i1, f.i2, f.b1, f.b2⟩
theorem cls_three {l d r i b : Int} {we : Bool} {n : Nat} (hc : G.chk ⟨3, 1, l, d, r, i, b, we, false⟩ = 0) (hl : l = (n : Int)) : clsR ⟨3, 1, l, d, r, i, b, we, false⟩ 0 = (0, n) := by
  unfold clsR G.cla
  rw [if_pos hc]
  subst hl
  simp
end Go.Proofs.YtmmegmonmilkcaaGreatDoor
