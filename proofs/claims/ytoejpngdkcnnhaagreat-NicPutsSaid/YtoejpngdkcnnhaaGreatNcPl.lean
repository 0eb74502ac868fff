/-
  A packet's words that come one by one: plain.
-/
import Derived.Test.YtoejpngdkcnnhaaGreatJn
import Derived.Test.YtoejpngdkcnnhaaGreatGoodR
namespace Go.Proofs.YtoejpngdkcnnhaaGreat
open Go.RowKit

/-- A parcel's one packet. -/
def onePk (P : Pc) : Pk := ⟨P.s, (P.hs.getD 0 (0, 0)).1, (P.hs.getD 0 (0, 0)).2, P.x⟩
theorem pks_one {P : Pc} (h1 : P.hs.length = 1) : pks P = [onePk P] := by
  obtain ⟨s, c, hs, x⟩ := P
  simp only at h1
  match hs, h1 with
  | [h], _ => rfl
theorem ws_at {P : Pc} (hok : P.okB = true) {k : Nat} (hk : k < P.ws.length) : ∃ f : Fl, P.ws[k]? = some f.word ∧ f.rightB = true ∧ (f.k = 3 ↔ k + 1 = P.ws.length) := by
  have hl := ws_len P
  by_cases h1 : k < P.hs.length
  · refine ⟨hdF P k, ?_, hd_right hok h1, ?_⟩
    · unfold Pc.ws; rw [List.getElem?_map, fls_head h1]; rfl
    · constructor
      · intro h; have : (hdF P k).k = 1 := rfl; rw [this] at h; exact absurd h (by decide)
      · intro h; omega
  by_cases h2 : k - P.hs.length < nb P.x.size
  · obtain ⟨j, rfl⟩ : ∃ j, k = P.hs.length + j := ⟨k - P.hs.length, by omega⟩
    have h2 : j < nb P.x.size := by omega
    refine ⟨bdF P.x j, ?_, bd_right h2, ?_⟩
    · unfold Pc.ws; rw [List.getElem?_map, fls_body h2]; rfl
    · constructor
      · intro h; have : (bdF P.x j).k = 2 := rfl; rw [this] at h; exact absurd h (by decide)
      · intro h; omega
  · obtain rfl : k = P.hs.length + nb P.x.size := by omega
    refine ⟨tlF P.x, ?_, tl_right _, ?_⟩
    · unfold Pc.ws; rw [List.getElem?_map, fls_tail]; rfl
    · exact ⟨fun _ => by omega, fun _ => rfl⟩
/-- One of its words: none is lost, and the packet is whole with the last one. -/
theorem tk_step {P : Pc} (h : P.okB = true) (h1 : P.hs.length = 1) {k W : Nat} (hW : P.ws[k]? = some W) :
    (takeR (sj takeR P.ws k) W).1 = sj takeR P.ws (k + 1) ∧ (takeR (sj takeR P.ws k) W).2.2.2 = 0 ∧ (takeR (sj takeR P.ws k) W).2.2.1 = decide (k + 1 = P.ws.length) ∧ (k + 1 = P.ws.length → (takeR (sj takeR P.ws k) W).2.1 = onePk P) := by
  obtain ⟨a1, a2, a3⟩ := ws_run takeR_tells h h1
  obtain ⟨s1, s2⟩ := sj_step (T := takeR) (L := P.ws) hW
  have hok := ok_at a1 hW
  have hk : k < P.ws.length := (List.getElem?_eq_some_iff.1 hW).1
  obtain ⟨f, hf, hg, hf3⟩ := ws_at h hk
  rw [hW] at hf
  cases hf
  have hT : takeR (sj takeR P.ws k) f.word = takeF (sj takeR P.ws k) f 0 := by
    unfold takeR
    rw [readR_word hg]
  obtain ⟨-, o2⟩ := ok_step hT hok
  unfold pkt at o2
  refine ⟨s1.symm, hok, ?_, fun hl => ?_⟩
  · by_cases hl : k + 1 = P.ws.length
    · have h3 : f.k = 3 := hf3.2 hl
      rw [if_pos h3] at o2
      rw [decide_eq_true hl]
      by_cases hc : (takeR (sj takeR P.ws k) f.word).2.2.1 = true
      · exact hc
      · rw [if_neg hc] at o2; cases o2
    · have h3 : ¬ f.k = 3 := fun c => hl (hf3.1 c)
      rw [if_neg h3] at o2
      rw [decide_eq_false hl]
      by_cases hc : (takeR (sj takeR P.ws k) f.word).2.2.1 = true
      · rw [if_pos hc] at o2; cases o2
      · exact Bool.eq_false_iff.2 hc
  · have h3 : f.k = 3 := hf3.2 hl
    rw [if_pos h3] at o2
    have hc : (takeR (sj takeR P.ws k) f.word).2.2.1 = true := by
      by_cases hc : (takeR (sj takeR P.ws k) f.word).2.2.1 = true
      · exact hc
      · rw [if_neg hc] at o2; cases o2
    rw [if_pos hc] at s2
    have hall := (sj_all (T := takeR) (L := P.ws)).2
    rw [← hl, a3, pks_one h1, s2] at hall
    have hlen := congrArg List.length hall
    simp at hlen
    have he : kp takeR P.ws k = [] := hlen
    rw [he] at hall
    simpa using hall
end Go.Proofs.YtoejpngdkcnnhaaGreat
