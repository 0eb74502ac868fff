/-
  The document's ring: PushAll, PopSome.
-/
import Derived.Test.YtfphelhgfjdjoaaRef2
namespace Go.Proofs.Ytfphelhgfjdjoaa
open Go.RowKit

def lenOf : Value → Nat | .slice _ n _ => n | _ => 0

section
variable {w : World} {c g : Nat} {s : RingSt} {lv : Int}

set_option maxHeartbeats 400000 in
theorem ref_pushAll (h : RefAt w c g s lv) (a : Option Addr) (n cap : Nat) (l : List Int) (hnl : n = l.length) (hl : l.length ≤ 1000000) (hr : Rd w a l (fun x => x ≠ c)) :
    Calls Try.prog 36 #[.pointer (some ⟨c, 0, none⟩), .slice a n cap] w fun e w' => e = .returned (.int .i64 (pushAll s l).1) ∧ RStp c g w w' (pushAll s l).2 := by
  have HN : Hid (n = l.length) := hnl
  have hn6 : n ≤ 1000000 := by omega
  have HH : Hid (RefAt w c g s lv) := h
  have HR : Hid (Rd w a l (fun x => x ≠ c)) := hr
  clear h hr hl hnl
  go_enter Try.func36, Try.ntmps36
  go_wp2
  go_loopw [5, 6] (fun x i wr => ∃ (k : Nat) (sk : RingSt), k ≤ n ∧ x = .int .i64 k ∧ i = .int .i64 k ∧ RStp c g w wr sk ∧ (pushAll s l).1 = (pushAll sk (l.drop k)).1 + k ∧ (pushAll s l).2 = (pushAll sk (l.drop k)).2) (fun _ i _ => n - (intOf i).toNat)
  case atStart => exact ⟨0, s, Nat.zero_le _, rfl, rfl, RStp.ofSame HH.out, rfl, rfl⟩
  case round =>
    obtain ⟨k, sk, hk, rfl, rfl, hS, h1, h2⟩ := hrel
    by_cases hlt : k < n
    · obtain ⟨g1, lv1, hR, hF, hP⟩ := hS
      have hlk : k < l.length := by have := HN.out; omega
      obtain ⟨gg, off, rfl, gc, g3, g4⟩ := HR.out k hlk
      have c1 : wr.cell? ⟨gg, off + k, none⟩ = some (.int .i64 (l.getD k 0)) := by
        rw [World.cell?_of_block (hF.block gg g3 gc gc)]; exact g4
      obtain ⟨v, hv⟩ : ∃ v, v = l.getD k 0 := ⟨_, rfl⟩
      rw [← hv] at c1
      rw [drop_cons hlk, ← hv, pushAll] at h1 h2
      have K := ref_push hR v
      by_cases h0 : layE sk = 0
      · rw [if_pos h0] at h1 h2
        rw [h0] at K
        have H1 : Hid ((pushAll s l).1 = (pushAll (pushS sk v) (l.drop (k + 1))).1 + (k + 1)) := by rw [h1]; show _ = _; simp; omega
        have H2 : Hid ((pushAll s l).2 = (pushAll (pushS sk v) (l.drop (k + 1))).2) := by rw [h2]; exact rfl
        clear h1 h2 h0 hv g4 gc
        go_wp2_with (go_at_call 31; refine K.mono ?_; rintro e w' ⟨rfl, g2, lv2, hR2, hF2, hP2⟩)
        go_roundw
        case rel => exact ⟨k + 1, _, by omega, by go_num, by go_num, ⟨g2, lv2, hR2, hF.trans hF2 (.inl rfl), by have := hF.size; omega⟩, H1.out, H2.out⟩
        case measure => simp [intOf]; omega
      · rw [if_neg h0] at h1 h2
        have e1 : pushS sk v = sk := by simp [pushS, h0]
        rw [e1] at K
        have h3 : (layE sk == 0) = false := by simpa using h0
        have h4 : (layE sk != 0) = true := by simpa using h0
        have H1 : Hid ((pushAll s l).1 = k) := by rw [h1]; show _ = _; simp
        have H2 : Hid ((pushAll s l).2 = sk) := h2
        clear h1 h2 h0 hv g4 e1 gc
        generalize layE sk = er at *
        go_wp2_with (go_at_call 31; refine K.mono ?_; rintro e w' ⟨rfl, g2, lv2, hR2, hF2, hP2⟩)
        go_ret
        exact ⟨ret_int (by rw [H1.out]), by rw [H2.out]; exact ⟨g2, lv2, hR2, hF.trans hF2 (.inl rfl), by have := hF.size; omega⟩⟩
    · obtain rfl : k = n := by omega
      have H1 : Hid ((pushAll s l).1 = k) := by rw [h1, HN.out, List.drop_length, pushAll]; show _ = _; simp
      have H2 : Hid ((pushAll s l).2 = sk) := by rw [h2, HN.out, List.drop_length, pushAll]; exact rfl
      clear h1 h2
      go_wp2
      go_ret
      exact ⟨ret_int (by rw [H1.out]), by rw [H2.out]; exact hS⟩

set_option maxHeartbeats 1000000 in
theorem ref_popSome (h : RefAt w c g s lv) (most : Int) :
    Calls Try.prog 37 #[.pointer (some ⟨c, 0, none⟩), .int .i64 most] w fun e w' =>
      ∃ v, e = .returned v ∧ Ints w' w.heap.size v (s.xs.take (min most s.xs.length).toNat) ∧ RStp c g w w' (popSome s (min most s.xs.length).toNat) := by
  obtain ⟨i0, hi, hz0, hz1, hz2⟩ := info_parts Try.info3
  have hlen : s.xs.length ≤ 4096 := by have := h.1.hcap; omega
  obtain ⟨n, hn⟩ : ∃ n : Nat, n = s.xs.length := ⟨_, rfl⟩
  rw [← hn] at hlen
  rw [← hn]
  have HN : Hid (n = s.xs.length) := hn
  obtain ⟨B, hB⟩ : ∃ B, B = w.heap.size := ⟨_, rfl⟩
  rw [← hB]
  have HB : Hid (B = w.heap.size) := hB
  clear hn hB
  have HH : Hid (RefAt w c g s lv) := h
  clear h
  obtain ⟨K, hK⟩ : ∃ K, K = (min most (n : Int)).toNat := ⟨_, rfl⟩
  rw [← hK]
  have hKn : K ≤ n := by omega
  have HK : Hid (K = (min most (n : Int)).toNat) := hK
  clear hK
  go_enter Try.func37, Try.ntmps37
  go_wp2
  go_loopw [5] (fun v wr => ∃ (k : Nat) (a : Option Addr) (cap : Nat), k ≤ K ∧ v = .slice a k cap ∧ Ints wr B (.slice a k cap) (s.xs.take k) ∧ RStp0 c g w wr (popSome s k)) (fun v _ => K - lenOf v)
  case atStart => exact ⟨0, none, 0, Nat.zero_le _, rfl, World.ownsRow_nil _ _ _ _, lv, HH.out, Fr.refl _ _ _⟩
  case round =>
    obtain ⟨k, ao, co, hk, rfl, hown, lv1, hR, hF⟩ := hrel
    obtain ⟨_, _, hg1, a1, cap1, t1, ht1, r1, r2, r3, r4⟩ := id hR
    have c1 : wr.cell? ⟨c, 1, none⟩ = some (.slice a1 (popSome s k).xs.length cap1) := by rw [cell_of ht1]; rfl
    have hm : (popSome s k).xs.length = n - k := by rw [popSome_xs, List.length_drop, ← HN.out]
    rw [hm] at c1
    clear ht1 r1 r2 r3 r4 hm hg1
    have hcw := HH.out.lt.1
    have hsz : B ≤ wr.heap.size := by have := hF.size; have := HB.out; omega
    by_cases hlt : k < K
    · have hlm : (k : Int) < most := by have := HK.out; omega
      have hln : k < n := by have := HK.out; omega
      have hl : k < s.xs.length := by have := HN.out; omega
      have Q := ref_pop hR
      obtain ⟨e1, e2⟩ := popSome_peek s k hl
      rw [e1, e2] at Q
      obtain ⟨x, hx⟩ : ∃ x, x = s.xs.getD k 0 := ⟨_, rfl⟩
      rw [← hx] at Q
      have HX : Hid (x = s.xs.getD k 0) := hx
      have hob := hown.lt
      have HKL : Hid ((s.xs.take k).length = k) := by show _ = _; simp; omega
      have hpos : 0 < n - k := by omega
      have hpos2 : (0 : Int) < ((n - k : Nat) : Int) := by omega
      have HR1 := Lib.hid hR
      clear hx e1 e2 hR
      generalize n - k = d at *
      go_wp2_with fail
      go_at_call 32
      refine Q.mono ?_
      rintro e w1 ⟨rfl, lv2, hR2, hF2⟩
      have hsz1 : B ≤ w1.heap.size := by have := hF2.size; omega
      have hcB : c < B := by have := HB.out; omega
      have hown1 : Ints w1 B (.slice ao k co) (s.xs.take k) := hown.keep fun q q1 q2 => hF2.block q q2 (by omega) (by omega)
      go_wp2_with (at_builtin; refine wpList_append_own _ rfl _ _ 31 rfl B 3 i0 (.int .i64 0) 1 8 Try.underlying31 hi hz0 hz1 hz2 rfl (by decide) _ _ _ rfl (hown1.alloc _) ⟨w1.heap.size, 0, none⟩ 1 1 [.int .i64 x] rfl rfl ?c1 ?c2 ?c3 ?c4 ?c5 ?_)
      case c1 =>
        intro j u hj
        match j, hj with
        | 0, hj => simp at hj; subst hj; exact (World.cell?_alloc_at _ _ _ _ rfl).trans rfl
      case c2 => intro u hu; simp at hu; subst hu; rfl
      case c3 => have := HKL.out; unfold maxLen; omega
      case c4 => have := HKL.out; omega
      case c5 => simp; omega
      · intro v' w2 hown' hgrow _
        have hown2 : Ints w2 B v' (s.xs.take (k + 1)) := by
          rw [HX.out] at hown'
          exact Ints.snoc hl hown'
        have hF3 : Fr c c w w2 := Fr.grown ((hF.trans hF2 (Or.inl rfl)).alloc _) hgrow (fun q hq => by have := (hown1.lt q hq).1; have := HB.out; omega)
        have hz12 := hF2.size
        have hz2' := hgrow.size
        have hl2 := hR2.lt
        have hgB : g < B := by have := HH.out.lt.2; have := HB.out; omega
        have hne : ∀ q, q < B → w2.heap[q]? = w1.heap[q]? := fun q h1 => by
          rw [hgrow.block q (by simp; omega) (fun e => by have := (hown1.lt q e.symm).1; omega), Below.heap_alloc _ _ _ (by omega)]
        have hR3 : RefAt w2 c g (popSome s (k + 1)) lv2 := hR2.keep (by simp at hz2'; omega) (hne c hcB) (hne g hgB)
        obtain ⟨a9, cap9, rfl, hown3⟩ : ∃ a9 cap9, v' = .slice a9 (k + 1) cap9 ∧ Ints w2 B (.slice a9 (k + 1) cap9) (s.xs.take (k + 1)) := by
          obtain ⟨a9, cap9, e9, _⟩ := ints_rd' hown2
          have hl9 : (s.xs.take (k + 1)).length = k + 1 := by simp; omega
          rw [hl9] at e9
          exact ⟨a9, cap9, e9, by rw [← e9]; exact hown2⟩
        clear hown' hgrow hown hown1 hob hF hF2 hR2 Q hown2 hne hz2' c1
        go_wp2
        go_roundw
        case rel => exact ⟨k + 1, a9, cap9, by omega, rfl, hown3, lv2, hR3, hF3⟩
        case measure => simp [lenOf]; omega
    · obtain rfl : k = K := by omega
      rcases (by have := HK.out; omega : most ≤ (k : Int) ∨ ((k : Int) < most ∧ n - k = 0)) with hge | ⟨hge, hz⟩
      · go_wp2
        go_ret
        exact ⟨_, rfl, hown, g, lv1, hR, hF, .inl rfl⟩
      · rw [hz] at c1
        clear hz
        go_wp2
        go_ret
        exact ⟨_, rfl, hown, g, lv1, hR, hF, .inl rfl⟩

end
end Go.Proofs.Ytfphelhgfjdjoaa
