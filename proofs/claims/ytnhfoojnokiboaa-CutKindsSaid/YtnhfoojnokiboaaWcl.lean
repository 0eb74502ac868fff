/-
  The walk of the closure that writes a word.
-/
import Derived.Test.YtnhfoojnokiboaaReadP
import Derived.Test.YtnhfoojnokiboaaWrite
namespace Go.Proofs.Ytnhfoojnokiboaa
open Go.RowKit

/-- A flit's word, by the program's Write. -/
theorem fwc {f : Fl} (h : f.rightB = true) (w : World) : Calls Try.prog 27 #[flv f] w fun e w' => e = .returned (.tuple #[.int .u64 ((f.word : Nat) : Int), .int .i64 0]) ∧ Below w.heap.size w w' := by
  have := fwrite_any f w
  have e : f.wordR = (f.word, 0) := by unfold Fl.wordR; rw [if_pos h]
  rw [e] at this
  exact this
/-- One word more stands in the row that the closure's cell holds. -/
def WPost (b B : Nat) (w : World) (L : List Value) (W : Nat) (e : Ending) (w' : World) : Prop :=
  e = .returned (.tuple #[]) ∧ ∃ v', Bk w' b #[v'] 30 ∧ Own 61 w' B v' (L ++ [.int .u64 (W : Int)]) ∧ Below b w w' ∧ B ≤ w'.heap.size

set_option maxRecDepth 100000 in
set_option maxHeartbeats 4000000 in
theorem wcl_any (f : Fl) (hf : f.rightB = true) (b B : Nat) (w : World) (v : Value) (L : List Value) (hbk : Bk w b #[v] 30) (hO : Own 61 w B v L) (hL : L.length ≤ 100000) (hbB : b < B) (hB : B ≤ w.heap.size) :
    Calls Try.prog 26 #[flv f, .pointer (some ⟨b, 0, none⟩)] w (WPost b B w L f.word) := by
  obtain ⟨i0, ki, hz0, hz1, hz2⟩ := info_parts Try.info61
  have CW := fwc hf (w.alloc (.cells (flc f) 58))
  obtain ⟨W, hW⟩ : ∃ W, f.word = W := ⟨_, rfl⟩
  rw [hW] at CW ⊢
  clear hW hf
  have A1 : Hid (Below w.heap.size w (w.alloc (.cells (flc f) 58))) := (Below.refl _ _).alloc (Nat.le_refl _) _
  have HK : Hid (Bk w b #[v] 30) := hbk
  have HO : Hid (Own 61 w B v L) := hO
  clear hbk hO
  obtain ⟨fk, fs, fd, fq, fl, fm, fc, fx⟩ := f
  simp only [flv, flc] at *
  go_enter Try.func26, Try.ntmps26
  go_wp2_with fail
  go_at_call 27
  with_reducible refine CW.mono ?_
  rintro e wa ⟨rfl, hba⟩
  have B1 : Below w.heap.size w wa := A1.out.trans (hba.mono A1.out.size)
  have bk : Bk wa b #[v] 30 := HK.out.next B1
  have ow : Own 61 wa B v L := own_next HO.out B1
  have c0 : wa.cell? ⟨b, 0, none⟩ = some v := bk.cell 0
  have hB2 : B ≤ wa.heap.size := Nat.le_trans hB B1.size
  have hll : L.length ≤ 1000000 := by omega
  have HB : Hid (Below b w wa) := B1.mono (by omega)
  have HK2 : Hid (Bk wa b #[v] 30) := bk
  clear hba B1 A1 HK HO CW bk hB
  go_wp2_with (at_builtin; go_loud (refine wpList_app_one rfl (.tmp 10) (.tmp 12) 30 61 i0 (.int .u64 0) 8 rfl Try.underlying30 ki hz0 hz1 hz2 rfl (by decide) B wa v L (.int .u64 ((W : Nat) : Int)) rfl ow rfl rfl hll hB2 ?_; intro v1' wb o1 kb; obtain ⟨ra, za, rfl, -, -, -⟩ := o1.rd; have bb : Bk wb b #[v] 30 := kb.2.2.2 _ _ _ _ (show 30 ≠ 61 by decide) HK2.out; have f0 : wb.frozen? ⟨b, 0, none⟩ = false := bb.free 0; have d0 : wb.cell? ⟨b, 0, none⟩ = some v := bb.cell 0; have HB3 : Hid (Below b wa wb) := (kb.2.1 _ (Below.refl _ _)).mono (Nat.le_of_lt hbB); have HS3 : Hid (wa.heap.size ≤ wb.heap.size) := kb.1; have HK3 : Hid (Bk wb b #[v] 30) := bb; clear kb bb ow))
  refine bodyPost_ret (results_none rfl _ _ _) rfl ⟨rfl, .slice ra (L ++ [Value.int .u64 (W : Int)]).length za, ?_, ?_, ?_, ?_⟩
  · have := HK3.out.set 0 (.slice ra (L ++ [Value.int .u64 (W : Int)]).length za)
    simpa using this
  · exact OwnK.far (k := 1) o1 hbB
  · exact (HB.out.trans HB3.out).setCell (Nat.le_refl _) _
  · have : wa.heap.size ≤ wb.heap.size := HS3.out
    simp
    omega
end Go.Proofs.Ytnhfoojnokiboaa
