/-
  Two parcels, one behind the other in a lane (plain mathematics).
-/
import Derived.Test.YtkigeakaedkjpaaKPlain
namespace Go.Proofs.Ytkigeakaedkjpaa

def llK (L1 L2 : List Nat) (i : Nat) : List Nat := if i = 0 then L1 else L2
/-- What stands ahead, what stands behind. -/
def befK (L1 L2 : List Nat) (i : Nat) : List Nat := if i = 0 then [] else if i = 1 then L1 else L1 ++ L2
def sufK (L1 L2 : List Nat) (i : Nat) : List Nat := if i = 0 then L1 ++ L2 else if i = 1 then L2 else []
structure TwoK (L1 L2 : List Nat) : Prop where
  len : ∀ i, i < 2 → 0 < (llK L1 L2 i).length ∧ (llK L1 L2 i).length ≤ 17
  bef : ∀ i, i < 2 → befK L1 L2 i ++ llK L1 L2 i = befK L1 L2 (i + 1)
  all : befK L1 L2 2 = sufK L1 L2 0
  put : ∀ i k, i < 2 → k < (llK L1 L2 i).length → putK ⟨64, befK L1 L2 i ++ (llK L1 L2 i).take k, 0, 0, 0, false⟩ ((llK L1 L2 i).getD k 0) = (⟨64, befK L1 L2 i ++ (llK L1 L2 i).take (k + 1), 0, 0, 0, false⟩, 0)
  lt : ∀ i k, i < 2 → k < (llK L1 L2 i).length → (llK L1 L2 i).getD k 0 < 18446744073709551616
  find : ∀ i p, i < 2 → 1 ≤ p ∧ p ≤ 4 → findK ⟨64, sufK L1 L2 i, 0, 0, 0, false⟩ (-1) p = (⟨64, sufK L1 L2 i, 1, p, 0, false⟩, true)
  give : ∀ i p ln, i < 2 → giveK ⟨64, sufK L1 L2 i, 1, p, 0, false⟩ ln = (passK 64 (llK L1 L2 i) (sufK L1 L2 (i + 1)) p ln 0, true)
  take : ∀ i p ln k, i < 2 → 1 ≤ p → k < (llK L1 L2 i).length → takeK (passK 64 (llK L1 L2 i) (sufK L1 L2 (i + 1)) p ln k) = (passK 64 (llK L1 L2 i) (sufK L1 L2 (i + 1)) p ln (k + 1), ⟨p, ln, (llK L1 L2 i).getD k 0, false, decide (k + 1 = (llK L1 L2 i).length)⟩, 0)
  fin : ∀ i p ln, i < 2 → passK 64 (llK L1 L2 i) (sufK L1 L2 (i + 1)) p ln (llK L1 L2 i).length = ⟨64, sufK L1 L2 (i + 1), 0, 0, 0, false⟩
theorem two_cases {i : Nat} (h : i < 2) : i = 0 ∨ i = 1 := by omega
theorem suf_split (L1 L2 : List Nat) {i : Nat} (h : i < 2) : sufK L1 L2 i = llK L1 L2 i ++ sufK L1 L2 (i + 1) := by
  rcases two_cases h with rfl | rfl
  · rfl
  · show L2 = L2 ++ []
    rw [List.append_nil]
theorem TwoK.mk' {L1 L2 : List Nat} {n1 n2 : Nat} {D1 D2 : Nat → Int} (h1 : Wds L1 n1 D1) (h2 : Wds L2 n2 D2) (d1 : D1 0 ≠ -1) (d2 : D2 0 ≠ -1) : TwoK L1 L2 := by
  have hw : ∀ i, i < 2 → ∃ n D, Wds (llK L1 L2 i) n D ∧ D 0 ≠ -1 := fun i hi => by
    rcases two_cases hi with rfl | rfl
    · exact ⟨n1, D1, h1, d1⟩
    · exact ⟨n2, D2, h2, d2⟩
  have hb : ∀ i, i < 2 → (befK L1 L2 i).length ≤ 17 := fun i hi => by
    rcases two_cases hi with rfl | rfl
    · show ([] : List Nat).length ≤ 17
      simp
    · exact h1.small
  refine ⟨fun i hi => ?_, fun i hi => ?_, rfl, fun i k hi hk => ?_, fun i k hi hk => ?_, fun i p hi hp => ?_, fun i p ln hi => ?_, fun i p ln k hi hp hk => ?_, fun i p ln hi => ?_⟩
  · obtain ⟨n, D, h, -⟩ := hw i hi
    exact ⟨by have := h.len; omega, h.small⟩
  · rcases two_cases hi with rfl | rfl <;> rfl
  · obtain ⟨n, D, h, -⟩ := hw i hi
    exact put_take hk _ (by have := hb i hi; have := h.small; omega)
  · obtain ⟨n, D, h, -⟩ := hw i hi
    exact h.lt _ (by rw [List.getD_eq_getElem?_getD, List.getElem?_eq_getElem hk]; exact List.getElem_mem _)
  · obtain ⟨n, D, h, hd⟩ := hw i hi
    rw [suf_split L1 L2 hi]
    exact pass_find h _ hd hp
  · obtain ⟨n, D, h, -⟩ := hw i hi
    rw [suf_split L1 L2 hi]
    exact pass_give _ (by have := h.len; omega) p ln
  · obtain ⟨n, D, h, -⟩ := hw i hi
    exact pass_step h _ (by omega) hk
  · unfold passK
    rw [if_neg (by omega)]
end Go.Proofs.Ytkigeakaedkjpaa
