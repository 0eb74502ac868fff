/-
  Two parcels for the node itself (plain mathematics).
-/
import Derived.Test.YtmmegmonmilkcaaGreatDoorRtDuo2
namespace Go.Proofs.YtmmegmonmilkcaaGreatDoor

/-- What RouterGates' calls answer: A i: i words of the first are put; B j: its way is found, j words of the second are put; G i j: behind so many movings of each. -/
structure Gat (T : Fl → Int → Int) (n : Nat) (L1 L2 : List Nat) (A B : Nat → RS) (E : RS) (G : Nat → Nat → RS → Prop) : Prop where
  nw : newRt n 64 0 = A 0
  put1 : ∀ i, i < L1.length → putRt (A i) 1 0 (L1.getD i 0) = (A (i + 1), 0)
  find1 : findRt T (A L1.length) 1 0 0 = (B 0, true)
  put2 : ∀ i, i < L2.length → putRt (B i) 2 0 (L2.getD i 0) = (B (i + 1), 0)
  find2 : findRt T (B L2.length) 2 0 0 = (E, true)
  an : ∀ i, (A i).node = 0
  bn : ∀ i, (B i).node = 0
  fst : ∃ S o, moveRt E 0 (fun _ => false) = (S, o, n, true) ∧ E.n = n ∧ ∃ S' o', moveRt S 0 (fun _ => false) = (S', o', 2 * n, true) ∧ S.n = n ∧ G 1 1 S'
  none : ∀ i j S, i ≤ L1.length → j ≤ L2.length → G i j S → moveRt S 1 (fun _ => true) = (S, zko, 0, false) ∧ S.n = n
  step : ∀ i j S, i ≤ L1.length → j ≤ L2.length → i + j < L1.length + L2.length → G i j S → ∃ S' o k i' j', moveRt S 0 (fun _ => false) = (S', o, k, true) ∧ S.n = n ∧ G i' j' S' ∧ i' ≤ L1.length ∧ j' ≤ L2.length ∧ i' + j' = i + j + 1
  fin : ∀ S, G L1.length L2.length S → idleRt S = true
theorem gat_of {T : Fl → Int → Int} {n : Nat} {L1 L2 : List Nat} (W1 : Wds L1 1 (fun _ => 0)) (W2 : Wds L2 1 (fun _ => 0)) (h1 : 1 ≤ n) : ∃ A B E G, Gat T n L1 L2 A B E G := by
  have l1 := W1.len
  have l2 := W2.len
  have s1 := W1.small
  have s2 := W2.small
  have k1 : n < 5 * n := by omega
  have k2 : 2 * n < 5 * n := by omega
  have hne : n ≠ 2 * n := by omega
  have hin : ∀ (q : Nat) K1 K2 own gv mv, q < 5 → inRt (duoR n 64 0 n (2 * n) K1 K2 own gv mv) (q : Int) 0 = true := fun q K1 K2 own gv mv hq => by
    rw [duo_in, decide_eq_true_eq]
    omega
  have hix : ∀ (q : Nat) K1 K2 own gv mv, ixRt (duoR n 64 0 n (2 * n) K1 K2 own gv mv) (q : Int) 0 = q * n := fun q K1 K2 own gv mv => by
    show (q : Int).toNat * n + (0 : Int).toNat = q * n
    simp
  have hin1 : ∀ K1 K2 own gv mv, inRt (duoR n 64 0 n (2 * n) K1 K2 own gv mv) 1 0 = true := fun K1 K2 own gv mv => hin 1 K1 K2 own gv mv (by decide)
  have hin2 : ∀ K1 K2 own gv mv, inRt (duoR n 64 0 n (2 * n) K1 K2 own gv mv) 2 0 = true := fun K1 K2 own gv mv => hin 2 K1 K2 own gv mv (by decide)
  have hix1 : ∀ K1 K2 own gv mv, ixRt (duoR n 64 0 n (2 * n) K1 K2 own gv mv) 1 0 = n := fun K1 K2 own gv mv => (hix 1 K1 K2 own gv mv).trans (Nat.one_mul n)
  have hix2 : ∀ K1 K2 own gv mv, ixRt (duoR n 64 0 n (2 * n) K1 K2 own gv mv) 2 0 = 2 * n := fun K1 K2 own gv mv => hix 2 K1 K2 own gv mv
  have found : ∀ (L : List Nat) (P : Int), Wds L 1 (fun _ => 0) → findK ⟨64, L, 0, 0, 0, false⟩ 0 P = (waK L 0 0 0, true) := fun L P W => by
    have := thru_find0 (r := 64) W P 1 0
    rw [this]
    unfold thruK waK
    rw [if_pos (by have := W.len; omega), if_pos (Or.inl rfl), if_pos (by have := W.len; omega)]
  have put : ∀ (L : List Nat) i, L.length ≤ 17 → i < L.length → putK ⟨64, L.take i, 0, 0, 0, false⟩ (L.getD i 0) = (⟨64, L.take (i + 1), 0, 0, 0, false⟩, 0) := fun L i hl hi => by
    have := put_take (r := 64) hi [] (by simp; omega)
    simpa using this
  have mv1 : ∀ (own : List Int) (gv mv : List Nat) i j, i ≤ L1.length → j ≤ L2.length → mv.getD 0 0 ≤ 5 * n → nextK2 n (2 * n) (mv.getD 0 0) (decide (i < L1.length)) (decide (j < L2.length)) = some n →
      ∃ o, moveRt (duoR n 64 0 n (2 * n) (waK L1 0 0 i) (waK L2 0 0 j) own gv mv) 0 (fun _ => false) = (duoR n 64 0 n (2 * n) (waK L1 0 0 (i + 1)) (waK L2 0 0 j) own gv (mv.set 0 (n + 1)), o, n, true) ∧ i < L1.length := fun own gv mv i j hi hj hm hs => by
    have hlt : i < L1.length := by
      unfold nextK2 at hs
      by_cases c : i < L1.length
      · exact c
      · rw [decide_eq_false c] at hs
        simp only [Bool.false_eq_true, false_and, if_false] at hs
        split at hs
        · simp only [Option.some.injEq] at hs; omega
        · cases hs
    have := duo_move1 (d := 64) (node := 0) (K1 := waK L1 0 0 i) (K2 := waK L2 0 0 j) (own := own) (gv := gv) (mv := mv) (show n < 2 * n by omega) k2 (p := 0) (by decide) (may := fun _ => false) hm (by
      rw [waK_sends _ _ hi 0 (Or.inl rfl), waK_sends _ _ hj 0 (Or.inl rfl), decide_eq_true (rfl : (0 : Int) = 0), Bool.and_true, Bool.and_true]
      exact hs)
    rw [waK_step W1 (fun _ => rfl) hlt] at this
    rw [if_neg (fun c => c.2 rfl)] at this
    exact ⟨_, this, hlt⟩
  have mv2 : ∀ (own : List Int) (gv mv : List Nat) i j, i ≤ L1.length → j ≤ L2.length → mv.getD 0 0 ≤ 5 * n → nextK2 n (2 * n) (mv.getD 0 0) (decide (i < L1.length)) (decide (j < L2.length)) = some (2 * n) →
      ∃ o, moveRt (duoR n 64 0 n (2 * n) (waK L1 0 0 i) (waK L2 0 0 j) own gv mv) 0 (fun _ => false) = (duoR n 64 0 n (2 * n) (waK L1 0 0 i) (waK L2 0 0 (j + 1)) own gv (mv.set 0 (2 * n + 1)), o, 2 * n, true) ∧ j < L2.length := fun own gv mv i j hi hj hm hs => by
    have hlt : j < L2.length := by
      unfold nextK2 at hs
      by_cases c : j < L2.length
      · exact c
      · rw [decide_eq_false c] at hs
        simp only [Bool.false_eq_true, and_false, if_false] at hs
        split at hs
        · simp only [Option.some.injEq] at hs; omega
        · cases hs
    have := duo_move2 (d := 64) (node := 0) (K1 := waK L1 0 0 i) (K2 := waK L2 0 0 j) (own := own) (gv := gv) (mv := mv) (show n < 2 * n by omega) k2 (p := 0) (by decide) (may := fun _ => false) hm (by
      rw [waK_sends _ _ hi 0 (Or.inl rfl), waK_sends _ _ hj 0 (Or.inl rfl), decide_eq_true (rfl : (0 : Int) = 0), Bool.and_true, Bool.and_true]
      exact hs)
    rw [waK_step W2 (fun _ => rfl) hlt] at this
    rw [if_neg (fun c => c.2 rfl)] at this
    exact ⟨_, this, hlt⟩
  have sl : ∀ (mv : List Nat) (x : Nat), x ≤ 5 * n → mv.getD 0 0 ≤ 5 * n → (mv.set 0 x).getD 0 0 ≤ 5 * n := fun mv x hx hm => by
    by_cases e : 0 < mv.length
    · rw [getDset _ _ _ _ _ e, if_pos rfl]; exact hx
    · rw [List.set_eq_of_length_le (by omega)]; exact hm
  refine ⟨fun i => duoR n 64 0 n (2 * n) ⟨64, L1.take i, 0, 0, 0, false⟩ (newK 64) (List.replicate (5 * n) (-1)) (List.replicate 5 0) (List.replicate 5 0), fun i => duoR n 64 0 n (2 * n) (waK L1 0 0 0) ⟨64, L2.take i, 0, 0, 0, false⟩ (List.replicate (5 * n) (-1)) (List.replicate 5 0) (List.replicate 5 0), duoR n 64 0 n (2 * n) (waK L1 0 0 0) (waK L2 0 0 0) (List.replicate (5 * n) (-1)) (List.replicate 5 0) (List.replicate 5 0),
    fun i j S => ∃ own gv mv, S = duoR n 64 0 n (2 * n) (waK L1 0 0 i) (waK L2 0 0 j) own gv mv ∧ mv.getD 0 0 ≤ 5 * n, ?_⟩
  refine ⟨duo_new k1 k2, fun i hi => ?_, ?_, fun i hi => ?_, ?_, fun _ => rfl, fun _ => rfl, ?_, fun i j S hi hj hS => ?_, fun i j S hi hj hij hS => ?_, fun S hS => ?_⟩
  · rw [duo_put1 k1 k2 hne (hin1 ..) (hix1 ..), put _ _ s1 hi]
  · refine duo_find1 k1 k2 hne (hin1 ..) (hix1 ..) T 0 ?_
    rw [List.take_length]
    exact found L1 _ W1
  · rw [duo_put2 k1 k2 (hin2 ..) (hix2 ..), put _ _ s2 hi]
  · refine duo_find2 k1 k2 (hin2 ..) (hix2 ..) T 0 ?_
    rw [List.take_length]
    exact found L2 _ W2
  · obtain ⟨o, m1, -⟩ := mv1 (List.replicate (5 * n) (-1)) (List.replicate 5 0) (List.replicate 5 0) 0 0 (by omega) (by omega) (by rw [rep_zero]; omega) (by
      rw [rep_zero, decide_eq_true (by omega), decide_eq_true (by omega)]
      unfold nextK2
      rw [if_pos ⟨rfl, rfl⟩, if_neg (by omega)])
    obtain ⟨o2, m2, -⟩ := mv2 (List.replicate (5 * n) (-1)) (List.replicate 5 0) ((List.replicate 5 0).set 0 (n + 1)) 1 0 (by omega) (by omega) (sl _ _ (by omega) (by rw [rep_zero]; omega)) (by
      rw [show ((List.replicate 5 0).set 0 (n + 1)).getD 0 0 = n + 1 from rfl, decide_eq_true (by omega), decide_eq_true (by omega)]
      unfold nextK2
      rw [if_pos ⟨rfl, rfl⟩, if_pos (by omega)])
    exact ⟨_, o, m1, rfl, _, o2, m2, rfl, _, _, _, rfl, sl _ _ (by omega) (sl _ _ (by omega) (by rw [rep_zero]; omega))⟩
  · obtain ⟨own, gv, mv, rfl, hm⟩ := hS
    refine ⟨?_, rfl⟩
    have hno : ∀ (l : Nat), nextK2 n (2 * n) l (sendsK (waK L1 0 0 i) 1 (fun _ => true)) (sendsK (waK L2 0 0 j) 1 (fun _ => true)) = none := fun l => by
      rw [waK_sends _ _ hi 1 (Or.inr rfl), waK_sends _ _ hj 1 (Or.inr rfl), decide_eq_false (by decide : ¬ (0 : Int) = 1), Bool.and_false, Bool.and_false]
      rfl
    have hgo : ∀ k, k < 5 * n → goesRt (duoR n 64 0 n (2 * n) (waK L1 0 0 i) (waK L2 0 0 j) own gv mv) 1 (fun _ => true) k = false := fun k hk => by
      rcases Bool.eq_false_or_eq_true (goesRt (duoR n 64 0 n (2 * n) (waK L1 0 0 i) (waK L2 0 0 j) own gv mv) 1 (fun _ => true) k) with c | c
      · rcases duo_goes k1 k2 1 _ hk c with rfl | rfl
        · rw [duo_goes1 k1 k2 hne, waK_sends _ _ hi 1 (Or.inr rfl)] at c
          simp at c
        · rw [duo_goes2 k1 k2, waK_sends _ _ hj 1 (Or.inr rfl)] at c
          simp at c
      · exact c
    have hask := ask_no (N := 5 * n) (l := mv.getD 1 0) hgo (by omega)
    exact moveRt_no (show (ask (5 * n) (mv.getD 1 0) (goesRt (duoR n 64 0 n (2 * n) (waK L1 0 0 i) (waK L2 0 0 j) own gv mv) 1 (fun _ => true))).2 = false by rw [hask])
  · obtain ⟨own, gv, mv, rfl, hm⟩ := hS
    have hnx : nextK2 n (2 * n) (mv.getD 0 0) (decide (i < L1.length)) (decide (j < L2.length)) = some n ∨ nextK2 n (2 * n) (mv.getD 0 0) (decide (i < L1.length)) (decide (j < L2.length)) = some (2 * n) := by
      unfold nextK2
      by_cases a : i < L1.length
      · by_cases b : j < L2.length
        · rw [decide_eq_true a, decide_eq_true b, if_pos ⟨rfl, rfl⟩]
          split
          · exact Or.inr rfl
          · exact Or.inl rfl
        · rw [decide_eq_true a, decide_eq_false b]
          exact Or.inl rfl
      · have b : j < L2.length := by omega
        rw [decide_eq_false a, decide_eq_true b]
        exact Or.inr rfl
    rcases hnx with h | h
    · obtain ⟨o, m, hl⟩ := mv1 own gv mv i j hi hj hm h
      exact ⟨_, o, n, i + 1, j, m, rfl, ⟨_, _, _, rfl, sl _ _ (by omega) hm⟩, by omega, hj, by omega⟩
    · obtain ⟨o, m, hl⟩ := mv2 own gv mv i j hi hj hm h
      exact ⟨_, o, 2 * n, i, j + 1, m, rfl, ⟨_, _, _, rfl, sl _ _ (by omega) hm⟩, hi, by omega, by omega⟩
  · obtain ⟨own, gv, mv, rfl, hm⟩ := hS
    rw [waK_end, waK_end]
    exact duo_idle rfl rfl rfl rfl
/-- The same by the number of the parcel: Ls i its words, U i ahead of it, Pt i k: k of its words are put. -/
structure GatF (T : Fl → Int → Int) (n : Nat) (Ls : Nat → List Nat) (U : Nat → RS) (Pt : Nat → Nat → RS) (G : Nat → Nat → RS → Prop) : Prop where
  nw : newRt n 64 0 = U 0
  p0 : ∀ i, i < 2 → Pt i 0 = U i
  put : ∀ i k, i < 2 → k < (Ls i).length → putRt (Pt i k) ((1 + i : Nat) : Int) 0 ((Ls i).getD k 0) = (Pt i (k + 1), 0)
  find : ∀ i, i < 2 → findRt T (Pt i (Ls i).length) ((1 + i : Nat) : Int) 0 0 = (U (i + 1), true)
  pn : ∀ i k, (Pt i k).node = 0
  fst : ∃ S o, moveRt (U 2) 0 (fun _ => false) = (S, o, n, true) ∧ (U 2).n = n ∧ ∃ S' o', moveRt S 0 (fun _ => false) = (S', o', 2 * n, true) ∧ S.n = n ∧ G 1 1 S'
  none : ∀ i j S, i ≤ (Ls 0).length → j ≤ (Ls 1).length → G i j S → moveRt S 1 (fun _ => true) = (S, zko, 0, false) ∧ S.n = n
  step : ∀ i j S, i ≤ (Ls 0).length → j ≤ (Ls 1).length → i + j < (Ls 0).length + (Ls 1).length → G i j S → ∃ S' o k i' j', moveRt S 0 (fun _ => false) = (S', o, k, true) ∧ S.n = n ∧ G i' j' S' ∧ i' ≤ (Ls 0).length ∧ j' ≤ (Ls 1).length ∧ i' + j' = i + j + 1
  fin : ∀ S, G (Ls 0).length (Ls 1).length S → idleRt S = true
theorem gatF_of {T : Fl → Int → Int} {n : Nat} {Ls : Nat → List Nat} (W : ∀ i, i < 2 → Wds (Ls i) 1 (fun _ => 0)) (h1 : 1 ≤ n) : ∃ U Pt G, GatF T n Ls U Pt G := by
  obtain ⟨A, B, E, G, H⟩ := gat_of (T := T) (W 0 (by decide)) (W 1 (by decide)) h1
  refine ⟨fun i => if i = 0 then A 0 else if i = 1 then B 0 else E, fun i k => if i = 0 then A k else B k, G, H.nw, fun i hi => ?_, fun i k hi hk => ?_, fun i hi => ?_, fun i k => ?_, H.fst, H.none, H.step, H.fin⟩
  · rcases (show i = 0 ∨ i = 1 by omega) with rfl | rfl <;> rfl
  · rcases (show i = 0 ∨ i = 1 by omega) with rfl | rfl
    · exact H.put1 k hk
    · exact H.put2 k hk
  · rcases (show i = 0 ∨ i = 1 by omega) with rfl | rfl
    · exact H.find1
    · exact H.find2
  · show (if i = 0 then A k else B k).node = 0
    split
    · exact H.an k
    · exact H.bn k
end Go.Proofs.YtmmegmonmilkcaaGreatDoor
