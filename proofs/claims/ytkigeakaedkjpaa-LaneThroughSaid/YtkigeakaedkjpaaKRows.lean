/-
  Two rows of words of a law's own beside a lane; what a parcel's words leave here, and what goes on.
-/
import Derived.Test.YtkigeakaedkjpaaKOps
import Derived.Test.YtkigeakaedkjpaaAppRow
namespace Go.Proofs.Ytkigeakaedkjpaa
open Go.RowKit

/-- Two rows of words, apart from one another and from the lane's blocks. -/
structure KRows (u0 wr : World) (F : Nat → Prop) (vh vo : Value) (lh lo : List Nat) : Prop where
  h : Row 36 1 u0 wr F vh lh.length (vw lh)
  o : Row 36 1 u0 wr F vo lo.length (vw lo)
  ap : ∀ q, vh.ownBlock = some q → vo.ownBlock ≠ some q
theorem KRows.nil (u0 wr : World) (F : Nat → Prop) : KRows u0 wr F (.slice none 0 0) (.slice none 0 0) [] [] := ⟨Row.nil _ _ _ _ _, Row.nil _ _ _ _ _, fun q h => by simp [Value.ownBlock] at h⟩
theorem KRows.gr {u0 wr w' : World} {F F' : Nat → Prop} {vh vo : Value} {lh lo : List Nat} (r : KRows u0 wr F vh vo lh lo) (g : Gr F wr w' F') : KRows u0 w' F' vh vo lh lo := ⟨r.h.gr g, r.o.gr g, r.ap⟩
theorem KRows.next {u0 wr w' : World} {F : Nat → Prop} {vh vo : Value} {lh lo : List Nat} (r : KRows u0 wr F vh vo lh lo) (g : Below wr.heap.size wr w') : KRows u0 w' F vh vo lh lo := ⟨r.h.next g, r.o.next g, r.ap⟩
theorem KRows.swap {u0 wr : World} {F : Nat → Prop} {vh vo : Value} {lh lo : List Nat} (r : KRows u0 wr F vh vo lh lo) : KRows u0 wr F vo vh lo lh := ⟨r.o, r.h, fun q h1 h2 => r.ap q h2 h1⟩
/-- One word behind the first row. -/
theorem KRows.here {u0 wr w' : World} {b : Nat} {S : KS} {F : Nat → Prop} {vh vo v' : Value} {lh lo : List Nat} {x : Nat} (r : KRows u0 wr F vh vo lh lo) (s : KSt u0 wr b S F) (o1 : OwnK 36 1 w' u0.heap.size v' (lh.length + 1) (vw lh ++ [.int .u64 (x : Int)]))
    (hg : (wr.alloc (.cells [Value.int .u64 (x : Int)].toArray 36)).grownBy w' vh.ownBlock) (hv : v'.ownBlock = vh.ownBlock ∨ v'.ownBlock = some (wr.alloc (.cells [Value.int .u64 (x : Int)].toArray 36)).heap.size) : KRows u0 w' F v' vo (lh ++ [x]) lo ∧ KSt u0 w' b S F := by
  obtain ⟨k1, k2⟩ := r.h.snoc s o1 hg hv
  refine ⟨⟨?_, ⟨?_, r.o.2⟩, ?_⟩, k2⟩
  · rw [vw_snoc] at k1
    simpa using k1
  · have := r.o.1.below ((Below.refl _ _).alloc (Nat.le_refl wr.heap.size) (.cells [Value.int .u64 (x : Int)].toArray 36))
    exact World.ownsRow.kept this hg (by
      rcases hq : vo.ownBlock with _ | q
      · exact Or.inl rfl
      · exact Or.inr fun c => r.ap q c.symm hq)
  · intro q hq hc
    rcases hv with e | e
    · exact r.ap q (by rw [← e]; exact hq) hc
    · rw [hq] at e
      injection e with e
      have := (r.o.1.lt hc).2
      simp at e
      omega
theorem KRows.on {u0 wr w' : World} {b : Nat} {S : KS} {F : Nat → Prop} {vh vo v' : Value} {lh lo : List Nat} {x : Nat} (r : KRows u0 wr F vh vo lh lo) (s : KSt u0 wr b S F) (o1 : OwnK 36 1 w' u0.heap.size v' (lo.length + 1) (vw lo ++ [.int .u64 (x : Int)]))
    (hg : (wr.alloc (.cells [Value.int .u64 (x : Int)].toArray 36)).grownBy w' vo.ownBlock) (hv : v'.ownBlock = vo.ownBlock ∨ v'.ownBlock = some (wr.alloc (.cells [Value.int .u64 (x : Int)].toArray 36)).heap.size) : KRows u0 w' F vh v' lh (lo ++ [x]) ∧ KSt u0 w' b S F := by
  obtain ⟨k1, k2⟩ := r.swap.here s o1 hg hv
  exact ⟨k1.swap, k2⟩

/-- What is told to the node, what goes on, of the first i words. -/
def hereL (L : List Nat) (n i : Nat) : List Nat := L.take (min i 1) ++ (L.take i).drop n
def onL (L : List Nat) (n i : Nat) : List Nat := if n = 1 then [] else (L.take i).drop 1
theorem take_snoc {L : List Nat} {i : Nat} (hi : i < L.length) : L.take (i + 1) = L.take i ++ [L.getD i 0] := by
  rw [List.take_add_one, List.getElem?_eq_getElem hi, List.getD_eq_getElem?_getD, List.getElem?_eq_getElem hi]
  rfl
theorem here_zero (L : List Nat) (n : Nat) : hereL L n 0 = [] := by unfold hereL; simp
theorem on_zero (L : List Nat) (n : Nat) : onL L n 0 = [] := by unfold onL; simp
theorem here_keep {L : List Nat} {n i : Nat} (h0 : i ≠ 0) (hn : i < n) : hereL L n (i + 1) = hereL L n i := by
  unfold hereL
  rw [Nat.min_eq_right (by omega), Nat.min_eq_right (by omega), List.drop_eq_nil_of_le (by rw [List.length_take]; omega), List.drop_eq_nil_of_le (by rw [List.length_take]; omega)]
theorem here_snoc {L : List Nat} {n i : Nat} (hi : i < L.length) (h : i = 0 ∨ n ≤ i) (hn : 1 ≤ n) : hereL L n (i + 1) = hereL L n i ++ [L.getD i 0] := by
  unfold hereL
  by_cases h0 : i = 0
  · subst h0
    rw [take_snoc hi, List.drop_eq_nil_of_le (by simp; omega)]
    have := take_snoc hi
    rw [show min (0 + 1) 1 = 0 + 1 from rfl, this]
    simp
  · have hni : n ≤ i := h.resolve_left h0
    rw [take_snoc hi, Nat.min_eq_right (by omega), Nat.min_eq_right (by omega), List.drop_append_of_le_length (by rw [List.length_take]; omega), List.append_assoc]
theorem on_keep {L : List Nat} {n i : Nat} (h : i = 0 ∨ n = 1) : onL L n (i + 1) = onL L n i := by
  unfold onL
  by_cases h1 : n = 1
  · rw [if_pos h1, if_pos h1]
  · rw [if_neg h1, if_neg h1]
    obtain rfl : i = 0 := h.resolve_right h1
    rw [List.drop_eq_nil_of_le (by rw [List.length_take]; omega), List.drop_eq_nil_of_le (by rw [List.length_take]; omega)]
theorem on_snoc {L : List Nat} {n i : Nat} (hi : i < L.length) (h : ¬ (i = 0 ∨ n = 1)) : onL L n (i + 1) = onL L n i ++ [L.getD i 0] := by
  unfold onL
  rw [if_neg (fun c => h (Or.inr c)), if_neg (fun c => h (Or.inr c)), take_snoc hi, List.drop_append_of_le_length (by rw [List.length_take]; omega)]
theorem here_le (L : List Nat) (n i : Nat) : (hereL L n i).length ≤ 1 + L.length := by
  unfold hereL
  simp only [List.length_append, List.length_take, List.length_drop]
  omega
theorem on_le (L : List Nat) (n i : Nat) : (onL L n i).length ≤ L.length := by
  unfold onL
  split
  · simp
  · simp only [List.length_take, List.length_drop]
    omega
theorem here_all {L : List Nat} {n : Nat} (h : 0 < L.length) : hereL L n L.length = L.getD 0 0 :: L.drop n := by
  unfold hereL
  rw [Nat.min_eq_right (by omega), List.take_length, show (1 : Nat) = 0 + 1 from rfl, take_snoc h]
  rfl
theorem on_all (L : List Nat) (n : Nat) : onL L n L.length = if n = 1 then [] else L.drop 1 := by
  unfold onL
  rw [List.take_length]
end Go.Proofs.Ytkigeakaedkjpaa
