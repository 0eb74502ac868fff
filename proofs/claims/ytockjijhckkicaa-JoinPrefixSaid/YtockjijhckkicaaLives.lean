/-
  The walk of lives.
-/
import Derived.Test.YtockjijhckkicaaAll
namespace Go.Proofs.Ytockjijhckkicaa
open Go.RowKit

def xab : ByteArray := ⟨#[97, 98]⟩
/-- The document's example. -/
def p0 : Pc := ⟨1, false, [(2, 3)], xab⟩
theorem p0_ok : p0.okB = true := by rw [ok_iff]; simp [p0, xab, headOk, ByteArray.size]
theorem p0_len : p0.ws.length = 2 := rfl
theorem p0_pks : pks p0 = [⟨1, 2, 3, ⟨#[97, 98]⟩⟩] := rfl

set_option maxRecDepth 100000 in
set_option maxHeartbeats 4000000 in
theorem lives_any (w : World) : Calls Try.prog 8 #[] w fun e w' => e = .returned (.bool true) ∧ Below w.heap.size w w' := by
  have BA : Hid (Below w.heap.size w (w.alloc (.cells #[.int .i64 2, .int .i64 3] 57))) := (Below.refl _ _).alloc (Nat.le_refl _) _
  have WC := rwords_any 1 false (some ⟨w.heap.size, 0, none⟩) 1 xab [(2, 3)] (w.alloc (.cells #[.int .i64 2, .int .i64 3] 57)) (by simp) (by unfold maxLen; decide) (fun j v hj => ⟨w.heap.size, 0, rfl, by simp, by
    rw [Nat.zero_add, cell_of (heap_alloc_new w (.cells #[.int .i64 2, .int .i64 3] 57)) j]
    simpa [pc] using hj⟩)
  have ew : Pc.wordsR ⟨1, false, [(2, 3)], xab⟩ = (p0.ws, 0) := by
    show p0.wordsR = _
    unfold Pc.wordsR
    rw [if_neg (by decide), if_pos p0_ok]
  rw [ew] at WC
  clear ew
  obtain ⟨o1, o2, o3⟩ := ws_run takeR_tells p0_ok rfl
  have hlt := ws_lt p0
  have hlen := p0_len
  have AC := fun a cap w' h => all_any p0.ws o1 (by rw [hlen]; decide) hlt a cap w' h
  rw [hlen, o3, p0_pks] at AC
  simp only [hlen] at WC
  generalize p0.ws = L at *
  clear o1 o2 o3 hlt hlen
  simp only [pcv, pcc, xab, List.length_cons, List.length_nil, Nat.zero_add] at *
  go_enter Try.func8, Try.ntmps8
  go_wp2_with fail
  go_at_call 18
  with_reducible refine WC.mono ?_
  rintro e w1 ⟨a1, cap1, rfl, hc1, rd1, hb1⟩
  have HB1 : Hid (Below w.heap.size w w1) := BA.out.trans (hb1.mono BA.out.size)
  have AC1 := AC a1 cap1 w1 rd1
  clear WC BA hb1 rd1 AC
  go_wp2_with fail
  go_at_call 15
  with_reducible refine AC1.mono ?_
  rintro e w2 ⟨v2, rfl, o2, hb2⟩
  have HB2 : Hid (Below w.heap.size w w2) := HB1.out.trans (hb2.mono HB1.out.size)
  obtain ⟨a2, cap2, rfl, hc2, hm2, rd2⟩ := o2.rd (by decide)
  obtain ⟨g, o, rfl, hg, d0, d1, d2, d3⟩ := rd2.pk (k := 0) rfl
  simp only [Nat.zero_mul, Nat.add_zero] at d0 d1 d2 d3
  clear AC1 HB1 hb2 o2 rd2
  go_wp2
  go_ret
  exact ⟨rfl, HB2.out⟩
end Go.Proofs.Ytockjijhckkicaa
