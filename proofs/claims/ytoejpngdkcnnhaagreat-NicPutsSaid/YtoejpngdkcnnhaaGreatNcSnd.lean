/-
  The parcels that were sent, as they lie in the row of the call's own, while more are sent; then, as Put finds them.
-/
import Derived.Test.YtoejpngdkcnnhaaGreatNcErr
import Derived.Test.YtoejpngdkcnnhaaGreatNcPuts
namespace Go.Proofs.YtoejpngdkcnnhaaGreat
open Go.RowKit

structure Snd (w : World) (B : Nat) (cu : Value) (L : List (Int × List Nat)) (H : Nat → Prop) : Prop where
  row : ∃ cells, OwnK 82 2 w B cu L.length cells ∧ ∀ j x, L[j]? = some x → cells[2 * j]? = some (.int .i64 x.1) ∧ ∃ h q mc, cells[2 * j + 1]? = some (.slice (some ⟨h, q, none⟩) x.2.length mc) ∧ x.2.length ≤ mc ∧ (H h ∧ ∃ cs, Bk w h cs 46) ∧ Rd w (some ⟨h, q, none⟩) (vw x.2)
  few : ∀ x ∈ L, 1 ≤ x.2.length ∧ x.2.length ≤ 1000000
  lt : ∀ k, H k → k < w.heap.size
section
variable {w w' : World} {b ib : Nat} {S : Nc} {cu : Value} {J : Nat → Value} {B : Nat} {L : List (Int × List Nat)} {H : Nat → Prop}
theorem Snd.nil (w : World) (B : Nat) : Snd w B (.slice none 0 0) [] (fun _ => False) := ⟨⟨[], OwnK.nil _ _ _ _, fun j x h => (by cases h)⟩, fun x h => (by cases h), fun _ h => h.elim⟩
theorem Snd.next (h : Snd w B cu L H) (hb : Below w.heap.size w w') : Snd w' B cu L H := by
  obtain ⟨⟨cells, ho, hc⟩, hf, hl⟩ := h
  refine ⟨⟨cells, ho.below hb, fun j x hj => ?_⟩, hf, fun k hk => Nat.lt_of_lt_of_le (hl k hk) hb.size⟩
  obtain ⟨h1, a, q, mc, h2, h3, ⟨h6, cs, h4⟩, h5⟩ := hc j x hj
  exact ⟨h1, a, q, mc, h2, h3, ⟨h6, cs, h4.next hb⟩, h5.below hb⟩
theorem Snd.tn {T : Nat → Prop} (h : Snd w B cu L H) (ht : Tn T w w') (hH : ∀ k, H k → ¬ T k) (hc : ∀ q, cu.ownBlock = some q → ¬ T q) : Snd w' B cu L H := by
  obtain ⟨⟨cells, ho, hcl⟩, hf, hl⟩ := h
  refine ⟨⟨cells, ⟨ho.1, ?_⟩, fun j x hj => ?_⟩, hf, fun k hk => Nat.lt_of_lt_of_le (hl k hk) ht.size⟩
  · rcases ho.2 with hn | ⟨g, cap, cur, e, hg, hh, r⟩
    · exact Or.inl hn
    · exact Or.inr ⟨g, cap, cur, e, hg, by rw [ht.block g (lt_of_heap hh) (hc g (by rw [e]; rfl))]; exact hh, r⟩
  · obtain ⟨h1, a, q, mc, h2, h3, ⟨h6, cs, h4⟩, h5⟩ := hcl j x hj
    refine ⟨h1, a, q, mc, h2, h3, ⟨h6, cs, ?_⟩, h5.tn ht fun y hy => by cases hy; exact hH a h6⟩
    unfold Bk at h4 ⊢
    rw [ht.block a (lt_of_heap h4) (hH a h6)]
    exact h4
theorem Snd.more (h : Snd w B cu L H) {H' : Nat → Prop} (hi : ∀ k, H k → H' k) (hl : ∀ k, H' k → k < w.heap.size) : Snd w B cu L H' := by
  obtain ⟨⟨cells, ho, hcl⟩, hf, -⟩ := h
  refine ⟨⟨cells, ho, fun j x hj => ?_⟩, hf, hl⟩
  obtain ⟨h1, a, q, mc, h2, h3, ⟨h6, h4⟩, h5⟩ := hcl j x hj
  exact ⟨h1, a, q, mc, h2, h3, ⟨hi a h6, h4⟩, h5⟩
theorem nic_send (hN : Nb w b ib S cu J) (hS : Snd w B cu L H) (P : Pc) (a : Option Addr) (cap : Nat) (hl : P.hs.length ≤ 1000000) (hx : P.x.size ≤ maxLen) (hr : Rd w a (pc P.hs)) (h0 : sendE S P = 0)
    (hcl : 0 ≤ (G.cla S.c P.c).1 ∧ (G.cla S.c P.c).1 ≤ 8 ∧ 0 ≤ (G.cla S.c P.c).2 ∧ (G.cla S.c P.c).2 ≤ 8) (hst : 0 ≤ S.st ∧ S.st ≤ 1000000) (hlf : 0 ≤ S.lf ∧ S.lf ≤ 1000000) (hw1 : 1 ≤ P.ws.length) (hwl : P.ws.length ≤ 1000000) (hbB : b < B) (hB : B ≤ w.heap.size) (hn : L.length ≤ 1000000) :
    Calls Tryz.prog 10 #[.pointer (some ⟨b, 0, none⟩), pcv P.s P.c (.slice a P.hs.length cap) P.x] w fun e w' => e = .returned (.int .i64 0) ∧ ∃ v, Nb w' b ib { S with st := S.st + 1, lf := S.lf + (P.ws.length : Int) } v J ∧ Snd w' B v (L ++ [(lnR S P, P.ws)]) (fun k => H k ∨ (w.heap.size ≤ k ∧ k < w'.heap.size)) ∧ Tn (fun g => g = b ∨ cu.ownBlock = some g) w w' := by
  obtain ⟨⟨cells, ho, hc⟩, hf, hlt⟩ := hS
  refine (send_ok hN P.s P.c a cap P.x P.hs hl hx hr h0 hcl hst hlf hwl ho hbB hB hn).mono ?_
  rintro e w' ⟨rfl, v, a', cap', q1, q2, q3, q4, q5, q6⟩
  refine ⟨rfl, v, q1, ⟨⟨_, by rw [List.length_append]; exact q2, fun j x hj => ?_⟩, fun x hx => ?_, fun k hk => ?_⟩, q6⟩
  · have hcl : cells.length = L.length * 2 := ho.1
    by_cases hjl : j < L.length
    · rw [List.getElem?_append_left hjl] at hj
      obtain ⟨h1, g, q, mc, h2, h3, ⟨h6, cs, h4⟩, h5⟩ := hc j x hj
      rw [List.getElem?_append_left (by omega), List.getElem?_append_left (by omega)]
      have hnb : ¬ (g = b ∨ cu.ownBlock = some g) := by
        rintro (c | c)
        · exact h4.apart hN.bk (by decide) c
        · exact ho.ne h4 (by decide) c
      refine ⟨h1, g, q, mc, h2, h3, ⟨Or.inl h6, cs, ?_⟩, h5.tn q6 fun y hy => by cases hy; exact hnb⟩
      unfold Bk at h4 ⊢
      rw [q6.block g (lt_of_heap h4) hnb]
      exact h4
    · have hjl : j = L.length := by
        have := (List.getElem?_eq_some_iff.1 hj).1
        simp at this
        omega
      subst hjl
      rw [List.getElem?_append_right (Nat.le_refl _)] at hj
      simp at hj
      subst hj
      rw [List.getElem?_append_right (by omega), List.getElem?_append_right (by omega), show 2 * L.length - cells.length = 0 by omega, show 2 * L.length + 1 - cells.length = 1 by omega]
      have ha : ∃ h q, a' = some ⟨h, q, none⟩ := q4.at0 (by rw [vw_len]; exact hw1)
      obtain ⟨h, q, rfl⟩ := ha
      have q9 := q5 _ rfl
      exact ⟨rfl, h, q, cap', rfl, q3, ⟨Or.inr ⟨q9.1, q9.2.elim fun cs hb => hb.lt⟩, q9.2⟩, q4⟩
  · rcases List.mem_append.1 hx with h | h
    · exact hf x h
    · rw [List.mem_singleton.1 h]; exact ⟨hw1, hwl⟩
  · rcases hk with h | h
    · exact Nat.lt_of_lt_of_le (hlt k h) q6.size
    · exact h.2
/-- As Put finds them. -/
theorem Snd.puts (hS : Snd w B cu L H) (hN : Nb w b ib S cu J) (hl : L ≠ []) : ∃ g, Puts w w.heap.size b g cu L ∧ B ≤ g ∧ cu.ownBlock = some g := by
  obtain ⟨⟨cells, ho, hc⟩, hf, -⟩ := hS
  have hpos : 0 < L.length := List.length_pos_iff.2 hl
  rcases ho.2 with ⟨_, h⟩ | ⟨g, cap, cur, e, hg, hh, r1, r2, r3, r4⟩
  · omega
  · have hgb : g ≠ b := Bk.apart (show Bk w g cur _ from hh) hN.bk (by decide)
    have hat : ∀ i u, cells[i]? = some u → cur[i]? = some u := fun i u hi => by
      rw [← r4, List.getElem?_take] at hi
      split at hi
      · simpa using hi
      · cases hi
    refine ⟨g, ⟨hgb, cur, _, hh, Or.inr ⟨0, cap, e, r1, r2, fun j x hj => ?_⟩⟩, hg, by rw [e]; rfl⟩
    obtain ⟨h1, a, q, mc, h2, h3, ⟨_, cs, h4⟩, h5⟩ := hc j x hj
    have hx := hf x (List.mem_of_getElem? hj)
    rw [Nat.zero_add]
    refine ⟨hat _ _ h1, ⟨a, q, mc, hat _ _ h2, h3, ⟨Bk.apart h4 (show Bk w g cur _ from hh) (by decide), Bk.apart h4 hN.bk (by decide), h4.lt⟩, h5⟩, hx.1, hx.2⟩
end
end Go.Proofs.YtoejpngdkcnnhaaGreat
