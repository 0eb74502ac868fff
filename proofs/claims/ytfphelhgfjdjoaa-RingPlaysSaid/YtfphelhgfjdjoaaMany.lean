/-
  New, PushAll, PopSome over a ring; Same over two slices.
-/
import Derived.Test.YtfphelhgfjdjoaaStep
namespace Go.Proofs.Ytfphelhgfjdjoaa
open Go.RowKit

/-- A slice of numbers that reads as l, in a block of which G holds. -/
def Rd (w : World) (a : Option Addr) (l : List Int) (G : Nat → Prop) : Prop :=
  ∀ j, j < l.length → ∃ g off, a = some ⟨g, off, none⟩ ∧ G g ∧ g < w.heap.size ∧ w.cell? ⟨g, off + j, none⟩ = some (.int .i64 (l.getD j 0))

theorem Src.rd {w : World} {B : Nat} {a : Option Addr} {l : List Int} (h : Src w B a l) : Rd w a l (fun g => B ≤ g) := fun j hj => by
  obtain ⟨g, h1, h2, h3, h4⟩ := h j hj
  exact ⟨g, 0, h1, h2, h3, by rw [Nat.zero_add]; exact h4⟩

theorem Rd.mono {w : World} {a : Option Addr} {l : List Int} {G G' : Nat → Prop} (h : Rd w a l G) (k : ∀ g, g < w.heap.size → G g → G' g) : Rd w a l G' := fun j hj => by
  obtain ⟨g, off, h1, h2, h3, h4⟩ := h j hj
  exact ⟨g, off, h1, k g h3 h2, h3, h4⟩

theorem Rd.keep {w w' : World} {a : Option Addr} {l : List Int} {G : Nat → Prop} (h : Rd w a l G) (hs : w.heap.size ≤ w'.heap.size) (hk : ∀ g, G g → g < w.heap.size → w'.heap[g]? = w.heap[g]?) : Rd w' a l G := fun j hj => by
  obtain ⟨g, off, h1, h2, h3, h4⟩ := h j hj
  exact ⟨g, off, h1, h2, by omega, by rw [World.cell?_of_block (hk g h2 h3)]; exact h4⟩

theorem Rd.take {w : World} {a : Option Addr} {l : List Int} {G : Nat → Prop} (h : Rd w a l G) (k : Nat) : Rd w a (l.take k) G := fun j hj => by
  obtain ⟨g, off, h1, h2, h3, h4⟩ := h j (by simp at hj; omega)
  exact ⟨g, off, h1, h2, h3, by
    rw [h4]; simp at hj; have hj2 : j < l.length := by omega
    rw [List.getD_eq_getElem?_getD, List.getD_eq_getElem?_getD, List.getElem?_take_of_lt (by omega)]⟩

theorem Ints.keep {w w' : World} {B : Nat} {v : Value} {l : List Int} (h : Ints w B v l) (hk : ∀ g, B ≤ g → g < w.heap.size → w'.heap[g]? = w.heap[g]?) : Ints w' B v l := by
  obtain ⟨h1, h2⟩ := h
  refine ⟨h1, ?_⟩
  rcases h2 with h2 | ⟨g, cap, cur, hv, hg, hh, r⟩
  · exact Or.inl h2
  · exact Or.inr ⟨g, cap, cur, hv, hg, (hk g hg (lt_of_heap hh)).trans hh, r⟩

def pushAll (s : RingSt) : List Int → Nat × RingSt
  | [] => (0, s)
  | v :: r => if layE s = 0 then ((pushAll (pushS s v) r).1 + 1, (pushAll (pushS s v) r).2) else (0, s)

def popSome (s : RingSt) : Nat → RingSt
  | 0 => s
  | k + 1 => freeS (popSome s k)

theorem new_any (room : Int) (i : Nat) (w : World) (hi : i < 4294967296) :
    Calls Try.prog 11 #[.int .i64 room, .int .u32 i] w fun e w' => e = .returned (.pointer (some ⟨w.heap.size, 0, none⟩)) ∧ RingAt w' w.heap.size w.heap.size 0 ⟨room, i, i, false, 0, []⟩ ∧ Below w.heap.size w w' := by
  go_enter Try.func11, Try.ntmps11
  go_wp2
  go_ret
  refine ⟨rfl, ⟨⟨hi, hi, by simp; omega, by simp [one]; omega⟩, ⟨56, ?_⟩, Or.inl ⟨rfl, rfl, rfl, rfl⟩⟩, (Below.refl _ _).alloc (Nat.le_refl _) _⟩
  show (w.heap.push _)[w.heap.size]? = _
  rw [Array.getElem?_push_size]; rfl

theorem drop_cons {l : List Int} {k : Nat} (h : k < l.length) : l.drop k = l.getD k 0 :: l.drop (k + 1) := by
  rw [List.drop_eq_getElem_cons h]; simp [h]

section
variable {w : World} {b pb m : Nat} {s : RingSt}

set_option maxHeartbeats 400000 in
theorem ring_pushAll (h : RingAt w b pb m s) (a : Option Addr) (cap : Nat) (l : List Int) (hl : l.length ≤ 1000000) (hr : Rd w a l (fun g => g ≠ b ∧ g ≠ pb)) :
    Calls Try.prog 29 #[.pointer (some ⟨b, 0, none⟩), .slice a l.length cap] w fun e w' => e = .returned (.int .i64 (pushAll s l).1) ∧ Stp b pb w w' (pushAll s l).2 := by
  obtain ⟨n, hn⟩ : ∃ n : Nat, n = l.length := ⟨_, rfl⟩
  rw [← hn]
  rw [← hn] at hl
  have HN : Hid (n = l.length) := hn
  clear hn
  have HH : Hid (RingAt w b pb m s) := h
  have HR : Hid (Rd w a l (fun g => g ≠ b ∧ g ≠ pb)) := hr
  clear h hr
  go_enter Try.func29, Try.ntmps29
  go_wp2
  go_loopw [9] (fun i wr => ∃ (k : Nat) (sk : RingSt), k ≤ n ∧ i = .int .i64 k ∧ Stp b pb w wr sk ∧ (pushAll s l).1 = (pushAll sk (l.drop k)).1 + k ∧ (pushAll s l).2 = (pushAll sk (l.drop k)).2) (fun i _ => n - (intOf i).toNat)
  case atStart => exact ⟨0, s, Nat.zero_le _, rfl, Stp.ofSame HH.out, rfl, rfl⟩
  case round =>
    obtain ⟨k, sk, hk, rfl, hS, h1, h2⟩ := hrel
    by_cases hlt : k < n
    · obtain ⟨pb1, m1, hR, hF, hP⟩ := hS
      have hlk : k < l.length := by have := HN.out; omega
      obtain ⟨g, off, rfl, ⟨g1, g2⟩, g3, g4⟩ := HR.out k hlk
      have c1 : wr.cell? ⟨g, off + k, none⟩ = some (.int .i64 (l.getD k 0)) := by
        rw [World.cell?_of_block (hF.block g g3 g1 g2)]; exact g4
      obtain ⟨v, hv⟩ : ∃ v, v = l.getD k 0 := ⟨_, rfl⟩
      rw [← hv] at c1
      rw [drop_cons hlk, ← hv, pushAll] at h1 h2
      have K := ring_push hR v
      by_cases h0 : layE sk = 0
      · rw [if_pos h0] at h1 h2
        rw [h0] at K
        have H1 : Hid ((pushAll s l).1 = (pushAll (pushS sk v) (l.drop (k + 1))).1 + (k + 1)) := by rw [h1]; show _ = _; simp; omega
        have H2 : Hid ((pushAll s l).2 = (pushAll (pushS sk v) (l.drop (k + 1))).2) := by rw [h2]; exact rfl
        clear h1 h2 h0 hv g4
        go_wp2_with (go_at_call 23; refine K.mono ?_; rintro e w' ⟨rfl, pb2, m2, hR2, hF2, hP2⟩)
        go_roundw
        case rel => exact ⟨k + 1, _, by omega, by go_num, ⟨pb2, m2, hR2, hF.trans hF2 hP, by have := hF.size; omega⟩, H1.out, H2.out⟩
        case measure => simp [intOf]; omega
      · rw [if_neg h0] at h1 h2
        have e1 : pushS sk v = sk := by simp [pushS, h0]
        rw [e1] at K
        have h3 : (layE sk == 0) = false := by simpa using h0
        have h4 : (layE sk != 0) = true := by simpa using h0
        have H1 : Hid ((pushAll s l).1 = k) := by rw [h1]; show _ = _; simp
        have H2 : Hid ((pushAll s l).2 = sk) := h2
        clear h1 h2 h0 hv g4 e1
        generalize layE sk = er at *
        go_wp2_with (go_at_call 23; refine K.mono ?_; rintro e w' ⟨rfl, pb2, m2, hR2, hF2, hP2⟩)
        go_ret
        exact ⟨ret_int (by rw [H1.out]), by rw [H2.out]; exact ⟨pb2, m2, hR2, hF.trans hF2 hP, by have := hF.size; omega⟩⟩
    · obtain rfl : k = n := by omega
      have H1 : Hid ((pushAll s l).1 = k) := by rw [h1, HN.out, List.drop_length, pushAll]; show _ = _; simp
      have H2 : Hid ((pushAll s l).2 = sk) := by rw [h2, HN.out, List.drop_length, pushAll]; exact rfl
      clear h1 h2
      go_wp2
      go_ret
      exact ⟨ret_int (by rw [H1.out]), by rw [H2.out]; exact hS⟩

theorem freeS_xs (s : RingSt) : (freeS s).xs = s.xs.tail := by
  unfold freeS
  split
  · rename_i h; rw [h]; rfl
  · rfl

theorem popSome_xs (s : RingSt) (k : Nat) : (popSome s k).xs = s.xs.drop k := by
  induction k with
  | zero => rfl
  | succ k ih => rw [popSome, freeS_xs, ih, List.tail_drop]

theorem popSome_peek (s : RingSt) (k : Nat) (h : k < s.xs.length) : peekV (popSome s k) = s.xs.getD k 0 ∧ peekE (popSome s k) = 0 := by
  rw [peekV, peekE, popSome_xs, drop_cons h]
  simp

set_option maxHeartbeats 800000 in
theorem ring_popSome (h : RingAt w b pb m s) (most : Int) :
    Calls Try.prog 30 #[.pointer (some ⟨b, 0, none⟩), .int .i64 most] w fun e w' =>
      ∃ v, e = .returned v ∧ Ints w' w.heap.size v (s.xs.take (min most s.xs.length).toNat) ∧ RingAt w' b pb m (popSome s (min most s.xs.length).toNat) ∧ Fr b pb w w' := by
  obtain ⟨i0, hi, hz0, hz1, hz2⟩ := info_parts Try.info3
  have L := ring_len h
  have hlen : s.xs.length ≤ 4096 := by have := h.1.hcap; omega
  obtain ⟨n, hn⟩ : ∃ n : Nat, n = s.xs.length := ⟨_, rfl⟩
  rw [← hn] at L hlen
  rw [← hn]
  have HN : Hid (n = s.xs.length) := hn
  obtain ⟨B, hB⟩ : ∃ B, B = w.heap.size := ⟨_, rfl⟩
  rw [← hB]
  have HB : Hid (B = w.heap.size) := hB
  clear hn hB
  have HH : Hid (RingAt w b pb m s) := h
  clear h
  obtain ⟨K, hK⟩ : ∃ K, K = (min most (n : Int)).toNat := ⟨_, rfl⟩
  rw [← hK]
  have HKn : K ≤ n := by omega
  have HK : Hid (K = (min most (n : Int)).toNat) := hK
  clear hK
  rcases (by omega : most < (n : Int) ∨ (n : Int) < most ∨ most = (n : Int)) with hc | hc | rfl
  all_goals
    go_enter Try.func30, Try.ntmps30
    go_wp2_with (go_at_call 18; refine L.mono ?_; rintro e w' ⟨rfl, nq, rfl⟩)
    go_loopw [5, 12] (fun v i wr => ∃ k : Nat, k ≤ K ∧ i = .int .i64 k ∧ Ints wr B v (s.xs.take k) ∧ RingAt wr b pb m (popSome s k) ∧ Fr b pb w wr) (fun _ i _ => K - (intOf i).toNat)
    case atStart => exact ⟨0, Nat.zero_le _, rfl, World.ownsRow_nil _ _ _ _, HH.out.drewN _, (Fr.refl _ _ _).drewN _⟩
    case round =>
      obtain ⟨k, hk, rfl, hown, hR, hF⟩ := hrel
      by_cases hlt : k < K
      · first | (have hlm : (k : Int) < most := by have := HK.out; omega) | skip
        have hln : k < n := by have := HK.out; omega
        have hl : k < s.xs.length := by have := HN.out; omega
        have Q := ring_pop hR
        obtain ⟨e1, e2⟩ := popSome_peek s k hl
        rw [e1, e2] at Q
        obtain ⟨x, hx⟩ : ∃ x, x = s.xs.getD k 0 := ⟨_, rfl⟩
        rw [← hx] at Q
        have HX : Hid (x = s.xs.getD k 0) := hx
        have hsz : B ≤ wr.heap.size := by have := hF.size; have := HB.out; omega
        have hbb := HH.out.lt
        have hob := hown.lt
        have HKL : Hid ((s.xs.take k).length = k) := by show _ = _; simp; omega
        clear hx e1 e2 hR
        go_wp2_with fail
        go_at_call 24
        refine Q.mono ?_
        rintro e w1 ⟨rfl, hR1, hF1⟩
        have hsz1 : B ≤ w1.heap.size := by have := hF1.size; omega
        have hown1 : Ints w1 B u5 (s.xs.take k) := hown.keep fun g g1 g2 => hF1.block g g2 (by have := HB.out; omega) (by have := HB.out; omega)
        go_wp2_with (at_builtin; refine wpList_append_own _ rfl _ _ 31 rfl B 3 i0 (.int .i64 0) 1 8 Try.underlying31 hi hz0 hz1 hz2 rfl (by decide) _ _ _ rfl (hown1.alloc _) ⟨w1.heap.size, 0, none⟩ 1 1 [.int .i64 x] rfl rfl ?c1 ?c2 ?c3 ?c4 ?c5 ?_)
        case c1 =>
          intro j u hj
          match j, hj with
          | 0, hj => simp at hj; subst hj; exact (World.cell?_alloc_at _ _ _ _ rfl).trans rfl
        case c2 => intro u hu; simp at hu; subst hu; rfl
        case c3 => have := HKL.out; unfold maxLen; omega
        case c4 => have := HKL.out; omega
        case c5 => simp; omega
        · intro v' w2 hown' hgrow _
          have hown2 : Ints w2 B v' (s.xs.take (k + 1)) := by
            rw [HX.out] at hown'
            exact Ints.snoc hl hown'
          have hF2 : Fr b pb w w2 := Fr.grown ((hF.trans hF1 (Or.inl rfl)).alloc _) hgrow (fun q hq => by have := (hown1.lt q hq).1; have := HB.out; omega)
          have hR2 : RingAt w2 b pb m (popSome s (k + 1)) := by
            have e1 := hgrow.block b (by simp; have := HB.out; omega) (fun q => by have := (hown1.lt b q.symm).1; have := HB.out; omega)
            have e2 := hgrow.block pb (by simp; have := HB.out; omega) (fun q => by have := (hown1.lt pb q.symm).1; have := HB.out; omega)
            rw [Below.heap_alloc _ _ _ (by have := HB.out; omega)] at e1 e2
            exact hR1.keep e1 e2
          clear hown' hgrow hown hown1 hob hF hF1 hR1 Q
          go_wp2
          go_roundw
          case rel => exact ⟨k + 1, by omega, by go_num, hown2, hR2, hF2⟩
          case measure => simp [intOf]; omega
      · obtain rfl : k = K := by omega
        first
          | (have hge : most ≤ (k : Int) := by have := HK.out; omega)
          | (have hge : n ≤ k := by have := HK.out; omega)
        go_wp2
        go_ret
        exact ⟨_, rfl, hown, hR, hF⟩

end
end Go.Proofs.Ytfphelhgfjdjoaa
