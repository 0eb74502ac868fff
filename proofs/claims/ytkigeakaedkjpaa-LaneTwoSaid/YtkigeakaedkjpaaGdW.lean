/-
  Parcels that may be, made of any (plain); the document's words of one. (GdP without Packets.)
-/
import Derived.Test.YtkigeakaedkjpaaGood
import Derived.Test.YtkigeakaedkjpaaRwords
namespace Go.Proofs.Ytkigeakaedkjpaa
open Go.RowKit

/-- A parcel that may be, made of any. -/
def gd (p : Pc) : Pc := ⟨md p.s 4096, p.c, gH p.c p.hs, gx p.x⟩
theorem md_in (n : Int) {m : Int} (h0 : 0 < m) (h1 : m ≤ 65536) : 0 ≤ md n m ∧ md n m < m := by
  have a0 : 0 ≤ IntKind.u64.wrap n := by rw [IntKind.wrap_u64]; exact Int.emod_nonneg _ (by decide)
  have e : (IntKind.u64.wrap n).tmod m = IntKind.u64.wrap n % m := Int.tmod_eq_emod_of_nonneg a0
  have a1 := Int.emod_nonneg (IntKind.u64.wrap n) (show m ≠ 0 by omega)
  have a2 := Int.emod_lt_of_pos (IntKind.u64.wrap n) h0
  unfold md
  rw [e, IntWalk.i64_in _ (by omega)]
  exact ⟨a1, a2⟩
theorem gH_len (c : Bool) (hs : List (Int × Int)) : 1 ≤ (gH c hs).length ∧ (gH c hs).length ≤ 6 ∧ (c = true ∨ (gH c hs).length = 1) := by
  unfold gH gL
  split
  · simp
  · rw [List.length_take, List.length_map]
    cases c
    · simp; omega
    · simp; omega
theorem gx_size (x : ByteArray) : (gx x).size ≤ 64 := by
  unfold gx
  split
  · assumption
  · rw [ByteArray.size_extract]; omega
theorem gd_len (p : Pc) : 1 ≤ (gd p).hs.length ∧ (gd p).hs.length ≤ 6 := ⟨(gH_len p.c p.hs).1, (gH_len p.c p.hs).2.1⟩
theorem gd_size (p : Pc) : (gd p).x.size ≤ 64 := gx_size p.x
theorem gh_ok (h : Int × Int) : headOk (gh h) = true := by
  rw [headOk_iff]
  have a := md_in h.1 (m := 4096) (by decide) (by decide)
  have b := md_in h.2 (m := 65536) (by decide) (by decide)
  unfold gh
  simp only
  omega
theorem gd_ok (p : Pc) : (gd p).okB = true := by
  obtain ⟨a1, a2, a3⟩ := gH_len p.c p.hs
  have b := md_in p.s (m := 4096) (by decide) (by decide)
  rw [ok_iff]
  refine ⟨by show 0 ≤ md p.s 4096 ∧ md p.s 4096 ≤ 4095; omega, ⟨a1, by show (gH p.c p.hs).length ≤ 4096; omega, a3⟩, gx_size p.x, fun h hh => ?_⟩
  replace hh : h ∈ gH p.c p.hs := hh
  unfold gH at hh
  split at hh
  · simp only [List.mem_singleton] at hh
    subst hh
    rfl
  · obtain ⟨h', _, rfl⟩ := List.mem_map.1 (List.mem_of_mem_take hh)
    exact gh_ok h'
theorem ws_lt (p : Pc) : ∀ x ∈ p.ws, x < 18446744073709551616 := by
  intro x hx
  unfold Pc.ws at hx
  obtain ⟨f, _, rfl⟩ := List.mem_map.1 hx
  exact word_lt f
theorem wordsR_ok {p : Pc} (h : p.okB = true) : p.wordsR = (p.ws, 0) := by
  obtain ⟨_, _, h2, _⟩ := (ok_iff p).1 h
  unfold Pc.wordsR
  rw [if_neg (by omega), if_pos h]
/-- The calls on a parcel that may be. -/
structure Fine (P : Pc) : Prop where
  ok : P.okB = true
  l1 : 1 ≤ P.hs.length
  l6 : P.hs.length ≤ 6
  x64 : P.x.size ≤ 64
theorem fine (p : Pc) : Fine (gd p) := ⟨gd_ok p, (gd_len p).1, (gd_len p).2, gd_size p⟩

theorem Fine.rwords {P : Pc} (F : Fine P) (a : Option Addr) (cap : Nat) (w : World) (hr : Rd w a (pc P.hs)) : Calls Try.prog 27 #[pcv P.s P.c (.slice a P.hs.length cap) P.x] w fun e w' => ∃ a' cap', e = .returned (.tuple #[.slice a' P.ws.length cap', .int .i64 0]) ∧ P.ws.length ≤ cap' ∧ Rd w' a' (vw P.ws) ∧ Below w.heap.size w w' := by
  have := rwords_any P.s P.c a cap P.x P.hs w (by have := F.l6; omega) (by have := F.x64; unfold maxLen; omega) hr
  rw [show (⟨P.s, P.c, P.hs, P.x⟩ : Pc) = P from rfl, wordsR_ok F.ok] at this
  exact this
theorem Fine.ws_small {P : Pc} (F : Fine P) : P.ws.length ≤ 17 ∧ P.ws.length = P.hs.length + (nb P.x.size + 1) := by
  have h1 := F.l6
  have h2 := F.x64
  rw [ws_len]
  unfold nb
  omega
end Go.Proofs.Ytkigeakaedkjpaa
